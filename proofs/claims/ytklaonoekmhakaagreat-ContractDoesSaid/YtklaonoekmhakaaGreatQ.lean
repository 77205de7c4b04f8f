/- Plain facts on digits of thousands, the lowest first. -/
import Derived.Test.YtklaonoekmhakaaGreatI
namespace Go.Proofs.YtklaonoekmhakaaGreat

def lval : List Int → Int
  | [] => 0
  | d :: l => d + 1000 * lval l
def DigOk (l : List Int) : Prop := ∀ d ∈ l, 0 ≤ d ∧ d ≤ 999
def dg (l : List Int) (i : Nat) : Int := l.getD i 0
def vTo (l : List Int) : Nat → Int
  | 0 => 0
  | k + 1 => vTo l k + dg l k * 1000 ^ k
/-- no digit 0 at the end -/
def Top (l : List Int) : Prop := l = [] ∨ dg l (l.length - 1) ≠ 0

theorem getD_lt {l : List Int} {i : Nat} (h : i < l.length) : l.getD i 0 = l[i] := by simp [List.getD_eq_getElem?_getD, h]
theorem getD_ge {l : List Int} {i : Nat} (h : l.length ≤ i) : l.getD i 0 = 0 := by simp [List.getD_eq_getElem?_getD, List.getElem?_eq_none h]
theorem getD_app {l r : List Int} {i : Nat} (h : i < l.length) : (l ++ r).getD i 0 = l.getD i 0 := by simp [List.getD_eq_getElem?_getD, List.getElem?_append_left h]
theorem pow_pos' (k : Nat) : (0 : Int) < 1000 ^ k := Int.pow_pos (by decide)
theorem lval_snoc (l : List Int) (x : Int) : lval (l ++ [x]) = lval l + x * 1000 ^ l.length := by
  induction l with
  | nil => simp [lval]
  | cons d l ih => simp only [List.cons_append, lval, ih, List.length_cons, Int.pow_succ, Int.mul_add]; rw [← Int.add_assoc]; congr 1; rw [Int.mul_comm 1000, Int.mul_assoc]
theorem dg_ok {l : List Int} (h : DigOk l) (i : Nat) : 0 ≤ dg l i ∧ dg l i ≤ 999 := by
  unfold dg
  by_cases hi : i < l.length
  · rw [getD_lt hi]; exact h _ (List.getElem_mem hi)
  · rw [getD_ge (by omega)]; omega
theorem dg_beyond {l : List Int} {i : Nat} (h : l.length ≤ i) : dg l i = 0 := getD_ge h
theorem dg_snoc_lt {l : List Int} {x : Int} {i : Nat} (h : i < l.length) : dg (l ++ [x]) i = dg l i := by
  unfold dg; rw [getD_app h]
theorem dg_take {l : List Int} {i k : Nat} (h : i < k) : dg (l.take k) i = dg l i := by
  unfold dg; simp only [List.getD_eq_getElem?_getD]; rw [List.getElem?_take_of_lt h]
theorem vTo_snoc {l : List Int} {x : Int} {k : Nat} (h : k ≤ l.length) : vTo (l ++ [x]) k = vTo l k := by
  induction k with
  | zero => rfl
  | succ k ih => simp only [vTo]; rw [ih (by omega), dg_snoc_lt (by omega)]
theorem vTo_len (l : List Int) : vTo l l.length = lval l := by
  suffices h : ∀ (m : Nat) (l : List Int), l.length = m → vTo l l.length = lval l from h _ l rfl
  intro m
  induction m with
  | zero => intro l hl; rw [List.eq_nil_of_length_eq_zero hl]; rfl
  | succ m ih =>
    intro l hl
    have hne : l ≠ [] := by intro h; rw [h] at hl; simp at hl
    obtain ⟨l', x, rfl⟩ : ∃ l' x, l = l' ++ [x] := ⟨l.dropLast, l.getLast hne, (List.dropLast_concat_getLast hne).symm⟩
    have hl' : l'.length = m := by simpa using hl
    rw [lval_snoc, List.length_append, List.length_singleton]
    simp only [vTo]
    rw [vTo_snoc (Nat.le_refl _), ih l' hl']
    congr 2
    unfold dg; simp
theorem vTo_beyond (l : List Int) {k : Nat} (h : l.length ≤ k) : vTo l k = lval l := by
  induction k with
  | zero => have : l = [] := List.eq_nil_of_length_eq_zero (by omega); rw [this]; rfl
  | succ k ih =>
    by_cases hk : l.length ≤ k
    · simp only [vTo]; rw [ih hk, dg_beyond hk]; omega
    · have : l.length = k + 1 := by omega
      rw [← this]; exact vTo_len l
theorem vTo_bd {l : List Int} (h : DigOk l) (k : Nat) : 0 ≤ vTo l k ∧ vTo l k < 1000 ^ k := by
  induction k with
  | zero => simp [vTo]
  | succ k ih =>
    have hd := dg_ok h k
    have hp := pow_pos' k
    simp only [vTo, Int.pow_succ]
    have h1 : 0 ≤ dg l k * 1000 ^ k := Int.mul_nonneg hd.1 (by omega)
    have h2 : dg l k * 1000 ^ k ≤ 999 * 1000 ^ k := Int.mul_le_mul_of_nonneg_right hd.2 (by omega)
    omega
theorem lval_bd {l : List Int} (h : DigOk l) : 0 ≤ lval l ∧ lval l < 1000 ^ l.length := by rw [← vTo_len]; exact vTo_bd h _
theorem digOk_snoc {l : List Int} {x : Int} (h : DigOk l) (h0 : 0 ≤ x) (h1 : x ≤ 999) : DigOk (l ++ [x]) := by
  intro d hd
  rw [List.mem_append, List.mem_singleton] at hd
  rcases hd with hd | rfl
  · exact h d hd
  · exact ⟨h0, h1⟩
theorem digOk_take {l : List Int} (h : DigOk l) (k : Nat) : DigOk (l.take k) := fun d hd => h d (List.mem_of_mem_take hd)

/-- what is compared from the end: the first digits that differ tell -/
theorem less_at {a b : List Int} (ha : DigOk a) (hb : DigOk b) (i : Nat) (h : dg a i < dg b i) : vTo a (i + 1) < vTo b (i + 1) := by
  have h1 := vTo_bd ha i; have h2 := vTo_bd hb i; have hp := pow_pos' i
  simp only [vTo]
  have h3 : (dg a i + 1) * 1000 ^ i ≤ dg b i * 1000 ^ i := Int.mul_le_mul_of_nonneg_right (by omega) (by omega)
  rw [Int.add_mul, Int.one_mul] at h3
  omega
theorem above {a b : List Int} {i n : Nat} (hin : i ≤ n) (h : ∀ j, i ≤ j → dg a j = dg b j) : vTo a n - vTo a i = vTo b n - vTo b i := by
  induction n with
  | zero => have : i = 0 := by omega
            rw [this]; omega
  | succ n ih =>
    by_cases hn : i ≤ n
    · simp only [vTo]; rw [h n hn]; have := ih hn; omega
    · have : i = n + 1 := by omega
      rw [this]; omega
theorem least_lt {a b : List Int} (ha : DigOk a) (hb : DigOk b) {i : Nat} (h : ∀ j, i + 1 ≤ j → dg a j = dg b j) (hlt : dg a i < dg b i) : lval a < lval b := by
  have h1 := less_at ha hb i hlt
  have e1 := vTo_beyond a (k := a.length + b.length + i + 1) (by omega)
  have e2 := vTo_beyond b (k := a.length + b.length + i + 1) (by omega)
  have h2 := above (a := a) (b := b) (i := i + 1) (n := a.length + b.length + i + 1) (by omega) h
  omega
theorem least_eq {a b : List Int} (h : ∀ j, dg a j = dg b j) : lval a = lval b := by
  have e1 := vTo_beyond a (k := a.length + b.length) (by omega)
  have e2 := vTo_beyond b (k := a.length + b.length) (by omega)
  have h2 := above (a := a) (b := b) (i := 0) (n := a.length + b.length) (by omega) (fun j _ => h j)
  simp only [vTo] at h2
  omega

/-- taking a 0 off the end -/
theorem lval_take_zero {l : List Int} {k : Nat} (hk : k + 1 ≤ l.length) (h : dg l k = 0) : lval (l.take (k + 1)) = lval (l.take k) := by
  have e : l.take (k + 1) = l.take k ++ [l[k]] := List.take_succ_eq_append_getElem (by omega)
  have e2 : l[k] = 0 := by unfold dg at h; rw [getD_lt (by omega)] at h; exact h
  rw [e, lval_snoc, e2]; omega
theorem lval_top {l : List Int} (h : DigOk l) (ht : Top l) (hne : l ≠ []) : (1000 : Int) ^ (l.length - 1) ≤ lval l := by
  rcases ht with h0 | h0
  · exact (hne h0).elim
  · have hl : 0 < l.length := List.length_pos_iff.2 hne
    rw [← vTo_len]
    obtain ⟨k, hk⟩ : ∃ k, l.length = k + 1 := ⟨l.length - 1, by omega⟩
    rw [hk] at h0 ⊢
    simp only [Nat.add_sub_cancel, vTo] at *
    have h1 := vTo_bd h k; have h2 := dg_ok h k; have hp := pow_pos' k
    have h3 : 1 * 1000 ^ k ≤ dg l k * 1000 ^ k := Int.mul_le_mul_of_nonneg_right (by omega) (by omega)
    omega
theorem len_le {l : List Int} (h : DigOk l) (ht : Top l) {n : Nat} (hn : lval l < 1000 ^ n) : l.length ≤ n := by
  by_cases hne : l = []
  · rw [hne]; simp
  · have h1 := lval_top h ht hne
    have h2 : (1000 : Int) ^ (l.length - 1) < 1000 ^ n := by omega
    have h3 : l.length - 1 < n := by
      by_cases hc : l.length - 1 < n
      · exact hc
      · have h4 : (1000 : Int) ^ n ≤ 1000 ^ (l.length - 1) := by
          obtain ⟨d, hd⟩ : ∃ d, l.length - 1 = n + d := ⟨l.length - 1 - n, by omega⟩
          rw [hd, Int.pow_add]
          have := pow_pos' n; have := pow_pos' d
          have h5 : (1000 : Int) ^ n * 1 ≤ 1000 ^ n * 1000 ^ d := Int.mul_le_mul_of_nonneg_left (by omega) (by omega)
          omega
        omega
    omega

theorem carry (n P : Int) : n % 1000 * P + n / 1000 * (P * 1000) = n * P := by
  rw [show n / 1000 * (P * 1000) = (n / 1000 * 1000) * P by rw [Int.mul_comm P, Int.mul_assoc], ← Int.add_mul]
  congr 1; omega
/-- one step of a sum, and its end -/
theorem plus_step {a b out : List Int} {i : Nat} {over : Int} (hl : out.length = i) (h : lval out + over * 1000 ^ i = vTo a i + vTo b i) :
    lval (out ++ [(dg a i + dg b i + over) % 1000]) + (dg a i + dg b i + over) / 1000 * 1000 ^ (i + 1) = vTo a (i + 1) + vTo b (i + 1) := by
  rw [lval_snoc, hl]
  have c := carry (dg a i + dg b i + over) (1000 ^ i)
  simp only [vTo, Int.pow_succ]
  rw [Int.add_mul, Int.add_mul] at c
  omega
theorem plus_end {a b out : List Int} {i : Nat} {over : Int} (ha : DigOk a) (hb : DigOk b) (ho : DigOk out) (h0 : 0 ≤ over) (hla : a.length ≤ i) (hlb : b.length ≤ i)
    (h : lval out + over * 1000 ^ (i + 1) = vTo a (i + 1) + vTo b (i + 1)) : lval out = lval a + lval b := by
  have e1 := vTo_beyond a (k := i + 1) (by omega)
  have e2 := vTo_beyond b (k := i + 1) (by omega)
  have b1 := vTo_bd ha i; have b2 := vTo_bd hb i
  rw [vTo_beyond a hla] at b1; rw [vTo_beyond b hlb] at b2
  have b3 := (lval_bd ho).1
  have hp := pow_pos' i
  rw [e1, e2, Int.pow_succ] at h
  have hz : over = 0 := by
    by_cases hc : over = 0
    · exact hc
    · have h3 : 1 * (1000 ^ i * 1000) ≤ over * (1000 ^ i * 1000) := Int.mul_le_mul_of_nonneg_right (by omega) (by omega)
      omega
  rw [hz] at h; omega
/-- one step of a difference, and its end -/
theorem less_step {a b out : List Int} {i : Nat} {borrow : Int} (hl : out.length = i) (h : lval out = vTo a i - vTo b i + borrow * 1000 ^ i) :
    lval (out ++ [(1000 + dg a i - dg b i - borrow) % 1000]) = vTo a (i + 1) - vTo b (i + 1) + (1 - (1000 + dg a i - dg b i - borrow) / 1000) * 1000 ^ (i + 1) := by
  rw [lval_snoc, hl]
  have c := carry (1000 + dg a i - dg b i - borrow) (1000 ^ i)
  simp only [vTo, Int.pow_succ]
  rw [Int.sub_mul, Int.sub_mul, Int.add_mul] at c
  rw [Int.sub_mul]
  omega
theorem less_end {a b out : List Int} {borrow : Int} (ha : DigOk a) (hb : DigOk b) (ho : DigOk out) (h0 : 0 ≤ borrow) (hl : out.length = a.length) (hle : lval b ≤ lval a)
    (h : lval out = vTo a a.length - vTo b a.length + borrow * 1000 ^ a.length) : lval out = lval a - lval b := by
  rw [vTo_len] at h
  have hvb : vTo b a.length = lval b := by
    have h1 := (lval_bd ha).2
    by_cases hc : b.length ≤ a.length
    · exact vTo_beyond b hc
    · -- digits beyond a's length would make b greater
      have hmono : ∀ n, vTo b n ≤ vTo b (n + 1) := fun n => by
        have := (dg_ok hb n).1; have := pow_pos' n
        simp only [vTo]; have : 0 ≤ dg b n * 1000 ^ n := Int.mul_nonneg (by omega) (by omega)
        omega
      have key : ∀ d, a.length + d ≤ b.length → vTo b (a.length + d) = vTo b a.length ∨ (1000 : Int) ^ a.length ≤ vTo b (a.length + d) := by
        intro d
        induction d with
        | zero => intro _; exact .inl rfl
        | succ d ih =>
          intro hd
          have hm := hmono (a.length + d)
          rcases ih (by omega) with e | e
          · by_cases hz : dg b (a.length + d) = 0
            · left; show vTo b (a.length + d + 1) = _; simp only [vTo]; rw [hz, e]; omega
            · right
              have h2 := dg_ok hb (a.length + d)
              have h3 := vTo_bd hb (a.length + d)
              have hp := pow_pos' a.length; have hq := pow_pos' d
              show _ ≤ vTo b (a.length + d + 1)
              simp only [vTo]
              have h4 : 1 * 1000 ^ (a.length + d) ≤ dg b (a.length + d) * 1000 ^ (a.length + d) := Int.mul_le_mul_of_nonneg_right (by omega) (by rw [Int.pow_add]; exact Int.mul_nonneg (by omega) (by omega))
              have h5 : (1000 : Int) ^ a.length * 1 ≤ 1000 ^ (a.length + d) := by
                rw [Int.pow_add]; exact Int.mul_le_mul_of_nonneg_left (by omega) (by omega)
              omega
          · right; show _ ≤ vTo b (a.length + d + 1); omega
      have hk := key (b.length - a.length) (by omega)
      rw [show a.length + (b.length - a.length) = b.length by omega, vTo_len] at hk
      rcases hk with e | e
      · exact e.symm
      · omega
  rw [hvb] at h
  have b3 := lval_bd ho
  rw [hl] at b3
  have hp := pow_pos' a.length
  have hz : borrow = 0 := by
    by_cases hc : borrow = 0
    · exact hc
    · have h3 : 1 * 1000 ^ a.length ≤ borrow * 1000 ^ a.length := Int.mul_le_mul_of_nonneg_right (by omega) (by omega)
      omega
  rw [hz] at h; omega
end Go.Proofs.YtklaonoekmhakaaGreat

namespace Go.Proofs.YtklaonoekmhakaaGreat
open Go.RowKit

/-- a slice that reads as these digits, in a block of integers -/
def Dg (W : World) (a : Option Addr) (cap : Nat) (l : List Int) : Prop :=
  (a = none ∧ l = []) ∨ ∃ g, a = some ⟨g, 0, none⟩ ∧ l.length ≤ cap ∧ (∃ cur fr, W.heap[g]? = some (.cells cur 3 fr)) ∧ ∀ i, i < l.length → W.cell? ⟨g, i, none⟩ = some (.int .i64 (dg l i))
theorem heap_lt {W : World} {g : Nat} {o : Obj} (h : W.heap[g]? = some o) : g < W.heap.size := by
  by_cases hg : g < W.heap.size
  · exact hg
  · rw [Array.getElem?_eq_none (by omega)] at h; simp at h
theorem Dg.below {W W' : World} {a : Option Addr} {cap : Nat} {l : List Int} (h : Dg W a cap l) (hb : Below W.heap.size W W') : Dg W' a cap l := by
  rcases h with h | ⟨g, h1, h2, ⟨cur, fr, h4⟩, h3⟩
  · exact .inl h
  · exact .inr ⟨g, h1, h2, ⟨cur, fr, by rw [hb.block g (heap_lt h4)]; exact h4⟩, fun i hi => kcell hb (h3 i hi)⟩
theorem Dg.take {W : World} {a : Option Addr} {cap : Nat} {l : List Int} (h : Dg W a cap l) (k : Nat) : Dg W a cap (l.take k) := by
  rcases h with ⟨h1, h2⟩ | ⟨g, h1, h2, h4, h3⟩
  · exact .inl ⟨h1, by rw [h2]; simp⟩
  · refine .inr ⟨g, h1, Nat.le_trans (List.length_take_le' _ _) h2, h4, fun i hi => ?_⟩
    rw [List.length_take] at hi
    rw [dg_take (by omega)]; exact h3 i (by omega)
theorem Dg.set {W : World} {a : Option Addr} {cap : Nat} {l : List Int} (h : Dg W a cap l) {N : Nat} (hN : ∃ C fr, W.heap[N]? = some (.cells C 135 fr)) (k : Nat) (u : Value) : Dg (W.setCell ⟨N, k, none⟩ u) a cap l := by
  rcases h with h | ⟨g, h1, h2, ⟨cur, fr, h4⟩, h3⟩
  · exact .inl h
  · obtain ⟨C, fr', hN⟩ := hN
    have hne : g ≠ N := by
      intro e; subst e; rw [h4] at hN; simp at hN
    refine .inr ⟨g, h1, h2, ⟨cur, fr, ?_⟩, fun i hi => cSet (by show N ≠ g; omega) (h3 i hi)⟩
    rw [Below.heap_setCell W ⟨N, k, none⟩ u g hne]; exact h4

/-- an exact number's parts -/
def Ex (W : World) (s : Int) (a : Option Addr) (len cap : Nat) (n : Int) : Prop :=
  s = n.sign ∧ ∃ l, l.length = len ∧ Dg W a cap l ∧ DigOk l ∧ Top l ∧ lval l = n.natAbs
theorem Ex.below {W W' : World} {s : Int} {a : Option Addr} {len cap : Nat} {n : Int} (h : Ex W s a len cap n) (hb : Below W.heap.size W W') : Ex W' s a len cap n := by
  obtain ⟨h1, l, h2, h3, h4⟩ := h
  exact ⟨h1, l, h2, h3.below hb, h4⟩
def ExPost (w : World) (n : Int) (e : Ending) (w' : World) : Prop :=
  ∃ s a len cap, e = .returned (.agg #[.int .i64 s, .slice a len cap]) ∧ Ex w' s a len cap n ∧ Below w.heap.size w w'

/-- a call's own result, empty -/
def Res (W : World) (N : Nat) : Prop := Row2 W N (.int .i64 0) (.slice none 0 0) ∧ ∃ C fr, W.heap[N]? = some (.cells C 135 fr)
theorem Res.start (w : World) : Res (w.alloc (.cells #[.int .i64 0, .slice none 0 0] 135)) w.heap.size :=
  ⟨Row2.new _ _ _ _, #[.int .i64 0, .slice none 0 0], (0, 0), heap_alloc_new w _⟩
theorem Res.up {W W' : World} {N B : Nat} (h : Res W N) (hb : Below B W W') (hB : N < B) : Res W' N := by
  obtain ⟨⟨h0, h1, h2, h3⟩, C, fr, h4⟩ := h
  exact ⟨⟨(hb.cell (p := ⟨N, 0, none⟩) hB).trans h0, (hb.cell (p := ⟨N, 1, none⟩) hB).trans h1, (hb.frozen (p := ⟨N, 0, none⟩) hB).trans h2, (hb.frozen (p := ⟨N, 1, none⟩) hB).trans h3⟩, C, fr, by rw [hb.block N hB]; exact h4⟩
theorem type_set {W : World} {N : Nat} (h : ∃ C fr, W.heap[N]? = some (.cells C 135 fr)) (k : Nat) (u : Value) : ∃ C fr, (W.setCell ⟨N, k, none⟩ u).heap[N]? = some (.cells C 135 fr) := by
  obtain ⟨C, fr, h⟩ := h
  exact ⟨C.setIfInBounds k u, fr, by show (W.heap.modify N _)[N]? = _; rw [Array.getElem?_modify, if_pos rfl, h]; rfl⟩
theorem ex_store {W : World} {N : Nat} {s : Int} {a : Option Addr} {len cap : Nat} {n : Int} (hR : Res W N) (h : Ex W s a len cap n) (u0 u1 : Value) :
    Ex ((W.setCell ⟨N, 0, none⟩ u0).setCell ⟨N, 1, none⟩ u1) s a len cap n := by
  obtain ⟨h1, l, h2, h3, h4⟩ := h
  exact ⟨h1, l, h2, (h3.set hR.2 0 u0).set (type_set hR.2 0 u0) 1 u1, h4⟩

set_option maxHeartbeats 400000 in
theorem at_some (g len cap : Nat) (i x : Int) (w : World) (h0 : 0 ≤ i) (h1 : i < len) (hc : w.cell? ⟨g, i.toNat, none⟩ = some (.int .i64 x)) :
    Calls Tryz.prog 111 #[.slice (some ⟨g, 0, none⟩) len cap, .int .i64 i] w fun e w' => e = .returned (.int .i64 x) ∧ w = w' := by
  have hc' : w.cell? ⟨g, 0 + i.toNat, none⟩ = some (.int .i64 x) := by rw [Nat.zero_add]; exact hc
  go_enter Tryz.func111, Tryz.ntmps111
  go_wp2
  go_ret
  exact ⟨rfl, rfl⟩
set_option maxHeartbeats 400000 in
theorem at_none (a : Option Addr) (len cap : Nat) (i : Int) (w : World) (h1 : len ≤ i) :
    Calls Tryz.prog 111 #[.slice a len cap, .int .i64 i] w fun e w' => e = .returned (.int .i64 0) ∧ w = w' := by
  go_enter Tryz.func111, Tryz.ntmps111
  go_wp2
  go_ret
  exact ⟨rfl, rfl⟩
theorem at_any {a : Option Addr} {cap : Nat} {l : List Int} {w : World} (h : Dg w a cap l) (i : Int) (h0 : 0 ≤ i) (len : Nat) (hl : l.length = len) :
    Calls Tryz.prog 111 #[.slice a len cap, .int .i64 i] w fun e w' => e = .returned (.int .i64 (dg l i.toNat)) ∧ w = w' := by
  subst hl
  by_cases hi : i < l.length
  · rcases h with ⟨h1, h2⟩ | ⟨g, rfl, h2, h3⟩
    · rw [h2] at hi; simp at hi; omega
    · exact at_some g l.length cap i _ w h0 hi (h3.2 i.toNat (by omega))
  · rw [dg_beyond (l := l) (i := i.toNat) (by omega)]
    exact at_none a l.length cap i w (by omega)

theorem ex_zero {W : World} {n : Int} (h : n = 0) (cap : Nat) : Ex W 0 none 0 cap n := by
  subst h
  exact ⟨rfl, [], rfl, .inl ⟨rfl, rfl⟩, fun d hd => by simp at hd, .inl rfl, rfl⟩
theorem sign_mul {s v : Int} (hs : s = 1 ∨ s = -1) (hv : 0 < v) : s = (s * v).sign ∧ v = ((s * v).natAbs : Int) := by
  rcases hs with rfl | rfl
  · rw [Int.one_mul, Int.sign_eq_one_of_pos hv]; exact ⟨rfl, by omega⟩
  · rw [show (-1 : Int) * v = -v by omega, Int.sign_eq_neg_one_of_neg (by omega)]; exact ⟨rfl, by omega⟩
theorem ex_made {W : World} {s : Int} {g cap j : Nat} {l : List Int} (hs : s = 1 ∨ s = -1) (h : Dg W (some ⟨g, 0, none⟩) cap l) (hd : DigOk l) (hj : j + 1 ≤ l.length) (hne : dg l j ≠ 0) (hv : lval (l.take (j + 1)) = lval l) :
    Ex W s (some ⟨g, 0, none⟩) (j + 1) cap (s * lval l) := by
  have hlen : (l.take (j + 1)).length = j + 1 := by rw [List.length_take]; omega
  have ht : Top (l.take (j + 1)) := .inr (by rw [hlen, Nat.add_sub_cancel, dg_take (by omega)]; exact hne)
  have hne2 : l.take (j + 1) ≠ [] := by intro e; rw [e] at hlen; simp at hlen
  have hp := lval_top (digOk_take hd (j + 1)) ht hne2
  have hq := pow_pos' ((l.take (j + 1)).length - 1)
  have hm := sign_mul (s := s) (v := lval l) hs (by omega)
  exact ⟨hm.1, l.take (j + 1), hlen, h.take _, digOk_take hd _, ht, by rw [hv]; exact hm.2⟩

set_option maxHeartbeats 400000 in
theorem made_some (s : Int) (hs : s = 1 ∨ s = -1) (g cap : Nat) (l : List Int) (w : World) (h : Dg w (some ⟨g, 0, none⟩) cap l) (hd : DigOk l) (hl : l.length ≤ 1000) :
    Calls Tryz.prog 112 #[.int .i64 s, .slice (some ⟨g, 0, none⟩) l.length cap] w (ExPost w (s * lval l)) := by
  have HD := Lib.hid h
  have HO := Lib.hid hd
  have HS := Lib.hid hs
  clear hs h hd
  go_enter Tryz.func112, Tryz.ntmps112
  go_wp2_with fail
  go_loop [1] (fun v => ∃ k : Nat, k ≤ l.length ∧ v = .slice (some ⟨g, 0, none⟩) k cap ∧ Hid (lval (l.take k) = lval l)) (fun v => match v with | .slice _ k _ => k | _ => 0)
  case atStart => exact ⟨l.length, Nat.le_refl _, rfl, Lib.hid (by rw [List.take_length])⟩
  case round =>
    obtain ⟨k, hk, rfl, HV⟩ := hrel
    by_cases hz : k = 0
    · subst hz
      go_wp2_with fail
      have hz0 : s * lval l = 0 := by rw [← HV.out]; simp [lval]
      exact bodyPost_ret (v := .agg #[.int .i64 0, .slice none 0 0]) (by simp [results, Tryz.results112, go_sem]) rfl
        ⟨0, none, 0, 0, rfl, ex_zero hz0 0, (Below.refl _ _).alloc (Nat.le_refl _) _⟩
    · obtain ⟨j, rfl⟩ : ∃ j, k = j + 1 := ⟨k - 1, by omega⟩
      clear hz
      obtain ⟨hcap, hcl⟩ : l.length ≤ cap ∧ w.cell? ⟨g, j, none⟩ = some (.int .i64 (dg l j)) := by
        rcases HD.out with ⟨h1, _⟩ | ⟨g', h1, h2, h3⟩
        · simp at h1
        · simp at h1; subst h1; exact ⟨h2, h3.2 j (by omega)⟩
      have hg : g < w.heap.size := World.block_lt_of_cell? (a := ⟨g, j, none⟩) _ hcl
      by_cases hx : dg l j = 0
      · have HX := Lib.hid (lval_take_zero hk hx)
        have hb : (dg l j == 0) = true := by rw [hx]; rfl
        clear hx
        go_wp2_with fail
        go_round
        case rel => exact ⟨j, by omega, rfl, Lib.hid (by rw [← HX.out]; exact HV.out)⟩
        case measure => simp
      · have HX := Lib.hid hx
        have hb : (dg l j == 0) = false := beq_eq_false_iff_ne.2 hx
        clear hx
        go_wp2_with fail
        have hB : Below w.heap.size w (w.alloc (.cells #[.int .i64 s, .slice (some ⟨g, 0, none⟩) (j + 1) cap] 135)) := (Below.refl _ _).alloc (Nat.le_refl _) _
        exact bodyPost_ret (v := .agg #[.int .i64 s, .slice (some ⟨g, 0, none⟩) (j + 1) cap]) (by simp [results, Tryz.results112, go_sem]) rfl
          ⟨s, _, j + 1, cap, rfl, (ex_made HS.out HD.out HO.out hk HX.out HV.out).below hB, hB⟩
end Go.Proofs.YtklaonoekmhakaaGreat
