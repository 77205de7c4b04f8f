/- Obligations, plainly: places by keys. -/
import Derived.Test.YtjmgncjadfhmcaaBoMath
namespace Go.Proofs.Ytjmgncjadfhmcaa
open Go.RowKit

def sumN (f : Nat → Int) : List Nat → Int
  | [] => 0
  | x :: l => f x + sumN f l
theorem sumN_append (f : Nat → Int) (l l' : List Nat) : sumN f (l ++ l') = sumN f l + sumN f l' := by
  induction l with
  | nil => simp [sumN]
  | cons x l ih => simp only [List.cons_append, sumN, ih]; omega
theorem sumN_reverse (f : Nat → Int) (l : List Nat) : sumN f l.reverse = sumN f l := by
  induction l with
  | nil => rfl
  | cons x l ih => rw [List.reverse_cons, sumN_append, ih]; simp only [sumN]; omega
theorem sumN_congr {f g : Nat → Int} {l : List Nat} (h : ∀ k ∈ l, f k = g k) : sumN f l = sumN g l := by
  induction l with
  | nil => rfl
  | cons x l ih =>
    simp only [sumN]
    rw [h x (by simp), ih fun k hk => h k (by simp [hk])]
theorem sumN_map (f : Nat → Int) (r : Nat → Nat) (l : List Nat) : sumN f (l.map r) = sumN (fun k => f (r k)) l := by
  induction l with
  | nil => rfl
  | cons x l ih => simp only [List.map_cons, sumN, ih]
theorem sumN_add (f g : Nat → Int) (l : List Nat) : sumN (fun k => f k + g k) l = sumN f l + sumN g l := by
  induction l with
  | nil => rfl
  | cons x l ih => simp only [sumN, ih]; omega
theorem sumN_zero (l : List Nat) : sumN (fun _ => 0) l = 0 := by
  induction l with
  | nil => rfl
  | cons x l ih => simp only [sumN, ih]; omega
theorem sumN_swap (g : Nat → Nat → Int) (A B : List Nat) : sumN (fun i => sumN (fun j => g i j) B) A = sumN (fun j => sumN (fun i => g i j) A) B := by
  induction A with
  | nil => simp only [sumN]; exact (sumN_zero B).symm
  | cons x l ih => simp only [sumN]; rw [ih, sumN_add]
theorem sumN_one (l : List Nat) : sumN (fun _ => 1) l = l.length := by
  induction l with
  | nil => rfl
  | cons x l ih => simp only [sumN, ih, List.length_cons]; omega
/-- what one alone bears -/
theorem sumN_only {l : List Nat} (hn : l.Nodup) {i : Nat} (hi : i ∈ l) {f : Nat → Int} (h0 : ∀ k ∈ l, k ≠ i → f k = 0) : sumN f l = f i := by
  induction l with
  | nil => cases hi
  | cons x l ih =>
    rw [List.nodup_cons] at hn
    simp only [sumN]
    rcases List.mem_cons.1 hi with rfl | hi'
    · have : sumN f l = 0 := by
        rw [sumN_congr (g := fun _ => 0) fun k hk => h0 k (by simp [hk]) (fun e => hn.1 (by rw [← e]; exact hk)), sumN_zero]
      omega
    · have hx : f x = 0 := h0 x (by simp) (fun e => hn.1 (by rw [e]; exact hi'))
      rw [hx, ih hn.2 hi' fun k hk => h0 k (by simp [hk])]; omega
theorem range_asc (n : Nat) : (List.range n).Pairwise (· < ·) := List.pairwise_lt_range
theorem asc_nodup {l : List Nat} (h : l.Pairwise (· < ·)) : l.Nodup := h.imp fun h => Nat.ne_of_lt h

section
variable {κ : Type} [DecidableEq κ] {K : Nat → κ} {n : Nat}
/-- the places of one key; the first ones of each key -/
def mems (K : Nat → κ) (n i : Nat) : List Nat := (List.range n).filter fun k => decide (K k = K i)
def isFst (K : Nat → κ) (i : Nat) : Bool := (List.range i).all fun k => decide (K k ≠ K i)
def fsts (K : Nat → κ) (n : Nat) : List Nat := (List.range n).filter (isFst K)
theorem mem_mems {i k : Nat} : k ∈ mems K n i ↔ k < n ∧ K k = K i := by simp [mems]
theorem isFst_iff {i : Nat} : isFst K i = true ↔ ∀ k, k < i → K k ≠ K i := by simp [isFst]
theorem mem_fsts {i : Nat} : i ∈ fsts K n ↔ i < n ∧ ∀ k, k < i → K k ≠ K i := by
  unfold fsts
  rw [List.mem_filter, List.mem_range, isFst_iff]
theorem mems_asc (i : Nat) : (mems K n i).Pairwise (· < ·) := (range_asc n).sublist List.filter_sublist
theorem fsts_asc : (fsts K n).Pairwise (· < ·) := (range_asc n).sublist List.filter_sublist
theorem mems_same {i j : Nat} (h : K i = K j) : mems K n i = mems K n j := by unfold mems; rw [h]
theorem fst_of : ∀ (a : Nat), ∃ i, i ≤ a ∧ K i = K a ∧ ∀ k, k < i → K k ≠ K i := by
  intro a
  induction a using Nat.strongRecOn with
  | _ a ih =>
    by_cases h : ∀ k, k < a → K k ≠ K a
    · exact ⟨a, Nat.le_refl _, rfl, h⟩
    · obtain ⟨k, hk⟩ : ∃ k, k < a ∧ K k = K a := Classical.byContradiction fun z => h fun k hk e => z ⟨k, hk, e⟩
      obtain ⟨i, h1, h2, h3⟩ := ih k hk.1
      exact ⟨i, by omega, h2.trans hk.2, h3⟩
theorem fst_ex {a : Nat} (h : a < n) : ∃ i ∈ fsts K n, K i = K a ∧ i ≤ a := by
  obtain ⟨i, h1, h2, h3⟩ := fst_of (K := K) a
  exact ⟨i, mem_fsts.2 ⟨by omega, h3⟩, h2, h1⟩
theorem fst_one {i j : Nat} (hi : i ∈ fsts K n) (hj : j ∈ fsts K n) (h : K i = K j) : i = j := by
  have h1 := (mem_fsts.1 hi).2
  have h2 := (mem_fsts.1 hj).2
  rcases Nat.lt_trichotomy i j with q | q | q
  · exact absurd h (h2 i q)
  · exact q
  · exact absurd h.symm (h1 j q)
/-- its first place is the first of its key -/
theorem mems_head {i : Nat} (hi : i ∈ fsts K n) : ∃ t, mems K n i = i :: t := by
  have hm : i ∈ mems K n i := mem_mems.2 ⟨(mem_fsts.1 hi).1, rfl⟩
  have ha := mems_asc (K := K) (n := n) i
  cases hl : mems K n i with
  | nil => rw [hl] at hm; cases hm
  | cons x t =>
    rw [hl] at hm ha
    rcases List.mem_cons.1 hm with e | e
    · exact ⟨t, by rw [e]⟩
    · exfalso
      have hx : x < i := (List.pairwise_cons.1 ha).1 i e
      have hxm : x ∈ mems K n i := by rw [hl]; simp
      exact (mem_fsts.1 hi).2 x hx (mem_mems.1 hxm).2
/-- what all places bear is what those of each key do, together -/
theorem sum_parts (f : Nat → Int) : sumN (fun i => sumN f (mems K n i)) (fsts K n) = sumN f (List.range n) := by
  have key : ∀ L : List Nat, (∀ k ∈ L, k < n) → sumN (fun i => sumN f (L.filter fun k => decide (K k = K i))) (fsts K n) = sumN f L := by
    intro L
    induction L with
    | nil => intro _; simp only [List.filter_nil, sumN]; exact sumN_zero _
    | cons x l ih =>
      intro hL
      have e : sumN (fun i => sumN f ((x :: l).filter fun k => decide (K k = K i))) (fsts K n) = sumN (fun i => (if K x = K i then f x else 0) + sumN f (l.filter fun k => decide (K k = K i))) (fsts K n) := sumN_congr fun i _ => by
        by_cases q : K x = K i <;> simp [q, sumN]
      rw [e, sumN_add, ih fun k hk => hL k (by simp [hk])]
      obtain ⟨i, hi, e1, _⟩ := fst_ex (K := K) (hL x (by simp))
      have e2 : sumN (fun i => if K x = K i then f x else 0) (fsts K n) = f x := by
        rw [sumN_only (asc_nodup fsts_asc) hi fun k hk hne => if_neg fun z => hne (fst_one hk hi (z.symm.trans e1.symm))]
        exact if_pos e1.symm
      rw [e2]; rfl
  exact key _ fun k hk => List.mem_range.1 hk
/-- each place is of just one -/
theorem one_part {a : Nat} (h : a < n) : sumN (fun i => sumN (fun k => if k = a then 1 else 0) (mems K n i)) (fsts K n) = 1 := by
  rw [sum_parts, sumN_only (asc_nodup (range_asc n)) (List.mem_range.2 h) fun k _ hne => if_neg hne]
  exact if_pos rfl

/-- turned about -/
def turnK (K : Nat → κ) (n : Nat) (k : Nat) : κ := K (n - 1 - k)
theorem range_turn (n : Nat) : (List.range n).map (fun k => n - 1 - k) = (List.range n).reverse := by
  apply List.ext_getElem?
  intro i
  by_cases h : i < n
  · rw [List.getElem?_map, List.getElem?_range h, List.getElem?_reverse (by simpa using h), List.length_range, List.getElem?_range (by omega)]; rfl
  · rw [List.getElem?_eq_none (by simp; omega), List.getElem?_eq_none (by simp; omega)]
theorem mems_turn {i j : Nat} (h : turnK K n j = K i) : mems (turnK K n) n j = ((mems K n i).reverse).map fun k => n - 1 - k := by
  have e1 : (mems (turnK K n) n j).map (fun k => n - 1 - k) = (mems K n i).reverse := by
    unfold mems
    rw [← List.filter_reverse, ← range_turn, List.filter_map]
    congr 1
    apply List.filter_congr
    intro k _
    show decide (turnK K n k = turnK K n j) = decide (K (n - 1 - k) = K i)
    rw [h]; rfl
  rw [← e1, List.map_map]
  symm
  have : ∀ l : List Nat, (∀ k ∈ l, k < n) → l.map ((fun k => n - 1 - k) ∘ fun k => n - 1 - k) = l := by
    intro l hl
    induction l with
    | nil => rfl
    | cons x l ih =>
      have hx := hl x (by simp)
      rw [List.map_cons, ih fun k hk => hl k (by simp [hk])]
      congr 1
      show n - 1 - (n - 1 - x) = x
      omega
  exact this _ fun k hk => (mem_mems.1 hk).1
theorem turn_key {i : Nat} (hi : i < n) : ∃ j ∈ fsts (turnK K n) n, turnK K n j = K i := by
  obtain ⟨j, h1, h2, _⟩ := fst_ex (K := turnK K n) (n := n) (a := n - 1 - i) (by omega)
  refine ⟨j, h1, h2.trans ?_⟩
  unfold turnK
  rw [show n - 1 - (n - 1 - i) = i by omega]
theorem turn_back {j : Nat} (hj : j < n) : ∃ i ∈ fsts K n, K i = turnK K n j := by
  obtain ⟨i, h1, h2, _⟩ := fst_ex (K := K) (n := n) (a := n - 1 - j) (by omega)
  exact ⟨i, h1, h2⟩
/-- as many of them -/
theorem fsts_turn : (fsts (turnK K n) n).length = (fsts K n).length := by
  have hA : sumN (fun i => sumN (fun j => if K i = turnK K n j then 1 else 0) (fsts (turnK K n) n)) (fsts K n) = (fsts K n).length := by
    rw [← sumN_one]
    refine sumN_congr fun i hi => ?_
    obtain ⟨j, h1, h2⟩ := turn_key (K := K) (mem_fsts.1 hi).1
    rw [sumN_only (asc_nodup fsts_asc) h1 fun k hk hne => if_neg fun z => hne (fst_one hk h1 (z.symm.trans h2.symm))]
    exact if_pos h2.symm
  have hB : sumN (fun j => sumN (fun i => if K i = turnK K n j then 1 else 0) (fsts K n)) (fsts (turnK K n) n) = (fsts (turnK K n) n).length := by
    rw [← sumN_one]
    refine sumN_congr fun j hj => ?_
    obtain ⟨i, h1, h2⟩ := turn_back (K := K) (mem_fsts.1 hj).1
    rw [sumN_only (asc_nodup fsts_asc) h1 fun k hk hne => if_neg fun z => hne (fst_one hk h1 (z.trans h2.symm))]
    exact if_pos h2
  have := sumN_swap (fun i j => if K i = turnK K n j then 1 else 0) (fsts K n) (fsts (turnK K n) n)
  omega
/-- one of them ends where one of the others begins, just if these are of one key -/
theorem turn_last {i j : Nat} (hi : i ∈ fsts K n) : (mems (turnK K n) n j).getLast? = some (n - 1 - i) ↔ turnK K n j = K i := by
  constructor
  · intro h
    have hm := List.mem_of_getLast? h
    have := (mem_mems.1 hm).2
    have hin := (mem_fsts.1 hi).1
    rw [← this]
    unfold turnK
    rw [show n - 1 - (n - 1 - i) = i by omega]
  · intro h
    obtain ⟨t, ht⟩ := mems_head hi
    rw [mems_turn h, ht]
    simp
end
/-- the least, and the greatest one -/
def minN (f : Nat → Int) (i : Nat) (l : List Nat) : Int := l.foldl (fun a k => min a (f k)) (f i)
def maxN (f : Nat → Int) (i : Nat) (l : List Nat) : Int := l.foldl (fun a k => max a (f k)) (f i)
theorem fold_min (f : Nat → Int) : ∀ (l : List Nat) (a : Int), l.foldl (fun a k => min a (f k)) a ≤ a ∧ (∀ k ∈ l, l.foldl (fun a k => min a (f k)) a ≤ f k) ∧ (l.foldl (fun a k => min a (f k)) a = a ∨ ∃ k ∈ l, l.foldl (fun a k => min a (f k)) a = f k)
  | [], a => ⟨Int.le_refl _, fun k hk => (by cases hk), .inl rfl⟩
  | x :: l, a => by
    obtain ⟨h1, h2, h3⟩ := fold_min f l (min a (f x))
    rw [List.foldl_cons]
    refine ⟨by omega, fun k hk => ?_, ?_⟩
    · rcases List.mem_cons.1 hk with rfl | hk
      · omega
      · exact h2 k hk
    · rcases h3 with h3 | ⟨k, hk, h3⟩
      · by_cases q : a ≤ f x
        · exact .inl (by omega)
        · exact .inr ⟨x, by simp, by omega⟩
      · exact .inr ⟨k, by simp [hk], h3⟩
theorem fold_max (f : Nat → Int) : ∀ (l : List Nat) (a : Int), a ≤ l.foldl (fun a k => max a (f k)) a ∧ (∀ k ∈ l, f k ≤ l.foldl (fun a k => max a (f k)) a) ∧ (l.foldl (fun a k => max a (f k)) a = a ∨ ∃ k ∈ l, l.foldl (fun a k => max a (f k)) a = f k)
  | [], a => ⟨Int.le_refl _, fun k hk => (by cases hk), .inl rfl⟩
  | x :: l, a => by
    obtain ⟨h1, h2, h3⟩ := fold_max f l (max a (f x))
    rw [List.foldl_cons]
    refine ⟨by omega, fun k hk => ?_, ?_⟩
    · rcases List.mem_cons.1 hk with rfl | hk
      · omega
      · exact h2 k hk
    · rcases h3 with h3 | ⟨k, hk, h3⟩
      · by_cases q : f x ≤ a
        · exact .inl (by omega)
        · exact .inr ⟨x, by simp, by omega⟩
      · exact .inr ⟨k, by simp [hk], h3⟩
theorem minN_is {f : Nat → Int} {i : Nat} {l : List Nat} (hi : i ∈ l) : (∀ k ∈ l, minN f i l ≤ f k) ∧ ∃ k ∈ l, minN f i l = f k := by
  obtain ⟨_, h2, h3⟩ := fold_min f l (f i)
  refine ⟨h2, ?_⟩
  rcases h3 with h3 | h3
  · exact ⟨i, hi, h3⟩
  · exact h3
theorem maxN_is {f : Nat → Int} {i : Nat} {l : List Nat} (hi : i ∈ l) : (∀ k ∈ l, f k ≤ maxN f i l) ∧ ∃ k ∈ l, maxN f i l = f k := by
  obtain ⟨_, h2, h3⟩ := fold_max f l (f i)
  refine ⟨h2, ?_⟩
  rcases h3 with h3 | h3
  · exact ⟨i, hi, h3⟩
  · exact h3
end Go.Proofs.Ytjmgncjadfhmcaa
