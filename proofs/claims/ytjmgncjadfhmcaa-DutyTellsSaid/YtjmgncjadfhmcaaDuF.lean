/- What owed answers, plainly. -/
import Derived.Test.YtjmgncjadfhmcaaDuE
namespace Go.Proofs.Ytjmgncjadfhmcaa
open Go.RowKit

theorem sumN_snoc (f : Nat → Int) (l : List Nat) (k : Nat) : sumN f (l ++ [k]) = sumN f l + f k := by
  rw [sumN_append]; simp [sumN]
theorem take_snoc {α : Type} {l : List α} {j : Nat} {x : α} (h : l[j]? = some x) : l.take (j + 1) = l.take j ++ [x] := by
  rw [List.take_add_one, h]; rfl
theorem drop_cons' {α : Type} {l : List α} {j : Nat} {x : α} (h : l[j]? = some x) : l.drop j = x :: l.drop (j + 1) := by
  obtain ⟨h1, rfl⟩ := List.getElem?_eq_some_iff.1 h
  exact List.drop_eq_getElem_cons h1
/-- the obligation of lines at these places -/
def duOf (S : Bs) (l : List Ln) (d : Int) (i : Nat) (ls : List Nat) : Du :=
  ⟨ls, sumN (fun k => aloV S (lnAt l k) d) ls, sumN (fun k => (lnAt l k).un) ls, (imAt S (lnAt l i)).met, minN (fun k => (lnAt l k).fi) i ls, maxN (fun k => (lnAt l k).la) i ls⟩
theorem duAt_of (S : Bs) (l : List Ln) (d : Int) (i : Nat) : duAt S l d i = duOf S l d i (mems (dKey S l) l.length i) := rfl
def owE (S : Bs) (l : List Ln) (d : Int) : List Nat → Int → Int → Int
  | [], _, _ => 0
  | k :: ks, al, un => if putE S (lnAt l k) d al un ≠ 0 then putE S (lnAt l k) d al un else owE S l d ks (al + aloV S (lnAt l k) d) (un + (lnAt l k).un)
/-- are these too much? -/
def dOver (S : Bs) (l : List Ln) (d : Int) (ls : List Nat) : Bool := (ls.any fun k => decide (aloE S (lnAt l k) d ≠ 0)) || !am64 (sumN (fun k => aloV S (lnAt l k) d) ls) || !am64 (sumN (fun k => (lnAt l k).un) ls)
theorem tellE_am (v : Int) : tellE v = if am64 v = true then 0 else 3 := by
  unfold tellE
  by_cases q : am64 v = true
  · rw [if_pos q]; have := am64_iff.1 q; unfold Am at this; rw [if_pos this]
  · rw [if_neg q, if_neg]; intro z; exact q (am64_iff.2 z)
theorem tellV_am {v : Int} (h : am64 v = true) : tellV v = v := by
  have := am64_iff.1 h; unfold Am at this; unfold tellV; rw [if_pos this]
theorem aloE_cases {S : Bs} {x : Ln} {d : Int} (hx : lnB S x = true) (hd : 0 ≤ d) : aloE S x d = 0 ∨ aloE S x d = 3 := by
  unfold aloE
  rw [hx, if_neg (by simp), if_neg (by omega), tellE_am]
  split <;> simp
theorem aloV_nn {S : Bs} (x : Ln) (d : Int) (hv : 0 ≤ priV S x.it d * x.un) : 0 ≤ aloV S x d := by
  unfold aloV tellV
  split
  · omega
  · split
    · omega
    · split <;> omega
theorem sumN_nn {f : Nat → Int} {l : List Nat} (h : ∀ k ∈ l, 0 ≤ f k) : 0 ≤ sumN f l := by
  induction l with
  | nil => exact Int.le_refl _
  | cons x l ih => simp only [sumN]; have := h x (by simp); have := ih fun k hk => h k (by simp [hk]); omega
/-- owed's error: of sums that do not fall -/
theorem owE_is {S : Bs} {l : List Ln} {d : Int} (hd : 0 ≤ d) : ∀ (ls : List Nat) (al un : Int), (∀ k ∈ ls, lnB S (lnAt l k) = true ∧ 0 ≤ aloV S (lnAt l k) d ∧ 0 ≤ (lnAt l k).un) → 0 ≤ al → 0 ≤ un → am64 al = true → am64 un = true →
    owE S l d ls al un = if (ls.any fun k => decide (aloE S (lnAt l k) d ≠ 0)) || !am64 (al + sumN (fun k => aloV S (lnAt l k) d) ls) || !am64 (un + sumN (fun k => (lnAt l k).un) ls) then 3 else 0
  | [], al, un, _, _, _, h1, h2 => by simp [owE, sumN, h1, h2]
  | k :: ks, al, un, h, ha, hu, h1, h2 => by
    obtain ⟨k1, k2, k3⟩ := h k (by simp)
    have hr : ∀ j ∈ ks, lnB S (lnAt l j) = true ∧ 0 ≤ aloV S (lnAt l j) d ∧ 0 ≤ (lnAt l j).un := fun j hj => h j (by simp [hj])
    have n1 : 0 ≤ sumN (fun k => aloV S (lnAt l k) d) ks := sumN_nn fun j hj => (hr j hj).2.1
    have n2 : 0 ≤ sumN (fun k => (lnAt l k).un) ks := sumN_nn fun j hj => (hr j hj).2.2
    have e1 : al + sumN (fun k => aloV S (lnAt l k) d) (k :: ks) = al + aloV S (lnAt l k) d + sumN (fun k => aloV S (lnAt l k) d) ks := by simp only [sumN]; omega
    have e2 : un + sumN (fun k => (lnAt l k).un) (k :: ks) = un + (lnAt l k).un + sumN (fun k => (lnAt l k).un) ks := by simp only [sumN]; omega
    rw [e1, e2]
    unfold owE putE
    rw [tellE_am, tellE_am]
    rcases aloE_cases k1 hd with q | q
    · rw [q]
      simp only [ne_eq, not_true_eq_false, if_false]
      by_cases p1 : am64 (al + aloV S (lnAt l k) d) = true
      · rw [if_pos p1]
        simp only [not_true_eq_false, if_false]
        by_cases p2 : am64 (un + (lnAt l k).un) = true
        · rw [if_pos p2]
          simp only [not_true_eq_false, if_false]
          rw [owE_is hd ks _ _ hr (by omega) (by omega) p1 p2, List.any_cons, q]
          simp
        · rw [if_neg p2]
          have : am64 (un + (lnAt l k).un + sumN (fun k => (lnAt l k).un) ks) = false := by
            cases z : am64 (un + (lnAt l k).un + sumN (fun k => (lnAt l k).un) ks) with
            | false => rfl
            | true =>
              have := am64_iff.1 z
              exact absurd (am64_iff.2 (by unfold Am at *; omega)) p2
          simp [this]
      · rw [if_neg p1]
        have : am64 (al + aloV S (lnAt l k) d + sumN (fun k => aloV S (lnAt l k) d) ks) = false := by
          cases z : am64 (al + aloV S (lnAt l k) d + sumN (fun k => aloV S (lnAt l k) d) ks) with
          | false => rfl
          | true =>
            have := am64_iff.1 z
            exact absurd (am64_iff.2 (by unfold Am at *; omega)) p1
        simp [this]
    · rw [q]; simp [q]
theorem owE_over {S : Bs} {l : List Ln} {d : Int} (hd : 0 ≤ d) (ls : List Nat) (h : ∀ k ∈ ls, lnB S (lnAt l k) = true ∧ 0 ≤ aloV S (lnAt l k) d ∧ 0 ≤ (lnAt l k).un) : owE S l d ls 0 0 = if dOver S l d ls = true then 3 else 0 := by
  rw [owE_is hd ls 0 0 h (Int.le_refl _) (Int.le_refl _) rfl rfl, Int.zero_add, Int.zero_add]; rfl
/-- too much, of all: of one of them -/
theorem duOver_any (S : Bs) (l : List Ln) (d : Int) : duOver S l d = (fsts (dKey S l) l.length).any fun i => dOver S l d (mems (dKey S l) l.length i) := by
  unfold duOver duties
  rw [Bool.eq_iff_iff]
  simp only [Bool.or_eq_true, List.any_eq_true, List.mem_map, decide_eq_true_eq, dOver]
  constructor
  · rintro (⟨x, hx, h⟩ | ⟨_, ⟨i, hi, rfl⟩, h⟩)
    · obtain ⟨k, hk⟩ := List.getElem?_of_mem hx
      have hlt := (List.getElem?_eq_some_iff.1 hk).1
      obtain ⟨i, hi, e, _⟩ := fst_ex (K := dKey S l) hlt
      exact ⟨i, hi, .inl (.inl ⟨k, mem_mems.2 ⟨hlt, e.symm⟩, by rw [lnAt_some hk]; exact h⟩)⟩
    · refine ⟨i, hi, ?_⟩
      rcases h with h | h
      · exact .inl (.inr h)
      · exact .inr h
  · rintro ⟨i, hi, (⟨k, hk, h⟩ | h) | h⟩
    · have hlt := (mem_mems.1 hk).1
      refine .inl ⟨l[k], List.getElem_mem hlt, ?_⟩
      rw [← lnAt_some (List.getElem?_eq_getElem hlt)]; exact h
    · exact .inr ⟨_, ⟨i, hi, rfl⟩, .inl h⟩
    · exact .inr ⟨_, ⟨i, hi, rfl⟩, .inr h⟩
end Go.Proofs.Ytjmgncjadfhmcaa
