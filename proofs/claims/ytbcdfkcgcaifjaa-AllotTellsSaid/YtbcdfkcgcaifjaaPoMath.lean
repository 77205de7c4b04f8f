/- Plain facts of parts, rests, and who gets one more. -/
import Derived.Test.YtbcdfkcgcaifjaaSoMb
namespace Go.Proofs.Ytbcdfkcgcaifjaa

/-- a piece in order, of the places that stood in it -/
def Piece (n : Nat) (K h : Nat → Int) (lo hi : Nat) : Prop := Up (key n K) h lo hi ∧ ∀ t, lo ≤ t → t < hi → (lo : Int) ≤ h t ∧ h t < hi
def SameSum (n : Nat) (h : Nat → Int) : Prop := ∀ p : Int → Int, sumN (fun t => p (h t)) n = sumN (fun t => p (t : Int)) n

theorem sumN_one (j n : Nat) : sumN (fun i => if i = j then 1 else 0) n = if j < n then 1 else 0 := by
  induction n with
  | zero => rfl
  | succ n ih =>
    simp only [sumN, ih]
    by_cases h1 : j < n
    · rw [if_pos h1, if_neg (by omega), if_pos (by omega)]; rfl
    · rw [if_neg h1]
      by_cases h2 : n = j
      · rw [if_pos h2, if_pos (by omega)]; rfl
      · rw [if_neg h2, if_neg (by omega)]; rfl
theorem sumN_below (j n : Nat) (h : j ≤ n) : sumN (fun i => if i < j then 1 else 0) n = j := by
  induction n with
  | zero => have : j = 0 := by omega
            subst this; rfl
  | succ n ih =>
    simp only [sumN]
    by_cases h1 : j = n + 1
    · subst h1
      rw [if_pos (by omega), sumN_congr (g := fun i => if i < n then 1 else 0) (fun t ht => by rw [if_pos (by omega), if_pos ht])]
      have : ∀ m, sumN (fun i => if i < m then 1 else 0) m = (m : Int) := by
        intro m
        have e : sumN (fun i => if i < m then 1 else 0) m = sumN (fun _ => 1) m := sumN_congr fun t ht => by rw [if_pos ht]
        rw [e]
        clear e
        induction m with
        | zero => rfl
        | succ m ihm => simp only [sumN, ihm]; omega
      rw [this n]; omega
    · rw [ih (by omega), if_neg (by omega)]; omega

def rankV (n : Nat) (K : Nat → Int) (t : Nat) : Int := sumN (fun k => if key n K k < key n K t then 1 else 0) n
theorem rank_of {n : Nat} {K h : Nat → Int} (p : Piece n K h 0 n) (s : SameSum n h) {t : Nat} (ht : t < n) : ∃ j, j < n ∧ h j = t ∧ rankV n K t = j ∧ ∀ i, i < n → (h i = t ↔ i = j) := by
  have e1 := s (fun x => if x = (t : Int) then 1 else 0)
  have e2 : sumN (fun k : Nat => if (k : Int) = (t : Int) then 1 else 0) n = 1 := by
    rw [sumN_congr (g := fun i => if i = t then 1 else 0) (fun i _ => by by_cases q : i = t <;> simp [q] <;> omega), sumN_one, if_pos ht]
  rw [e2] at e1
  have e3 : ∃ j, j < n ∧ h j = t := by
    apply Classical.byContradiction
    intro hn
    rw [sumN_zero (fun i hi => if_neg (fun q => hn ⟨i, hi, q⟩))] at e1
    omega
  obtain ⟨j, hj, hjt⟩ := e3
  have lt : ∀ i, i < n → (key n K (h i) < key n K t ↔ i < j) := by
    intro i hi
    rw [← hjt]
    constructor
    · intro q
      apply Nat.lt_of_not_le; intro q2
      have := p.1.le (s := j) (t := i) (Nat.zero_le _) q2 hi
      omega
    · intro q; exact p.1 i j (Nat.zero_le _) q hj
  refine ⟨j, hj, hjt, ?_, fun i hi => ⟨fun q => ?_, fun q => by rw [q]; exact hjt⟩⟩
  · have e4 := s (fun x => if key n K x < key n K t then 1 else 0)
    unfold rankV
    rw [← e4, sumN_congr (g := fun i => if i < j then 1 else 0) (fun i hi => by
      by_cases q : i < j
      · rw [if_pos ((lt i hi).2 q), if_pos q]
      · rw [if_neg (fun r => q ((lt i hi).1 r)), if_neg q]), sumN_below j n (by omega)]
  · apply Classical.byContradiction
    intro hn
    by_cases q2 : i < j
    · have := (lt i hi).2 q2; rw [q] at this; omega
    · have := p.1 j i (Nat.zero_le _) (by omega) hi; rw [q, hjt] at this; omega

/-- how often a place is told among the first ones -/
def toldV (h : Nat → Int) (m t : Nat) : Int := sumN (fun i => if h i = (t : Int) then 1 else 0) m
theorem told_is {n m : Nat} {K h : Nat → Int} (p : Piece n K h 0 n) (s : SameSum n h) (hm : m ≤ n) {t : Nat} (ht : t < n) : toldV h m t = if rankV n K t < m then 1 else 0 := by
  obtain ⟨j, hj, hjt, hr, hu⟩ := rank_of p s ht
  unfold toldV
  rw [sumN_congr (g := fun i => if i = j then 1 else 0) (fun i hi => by
    by_cases q : i = j
    · rw [if_pos ((hu i (by omega)).2 q), if_pos q]
    · rw [if_neg (fun r => q ((hu i (by omega)).1 r)), if_neg q]), sumN_one, hr]
  by_cases q : j < m
  · rw [if_pos q, if_pos (by omega)]
  · rw [if_neg q, if_neg (by omega)]
/-- as many are told as there are -/
theorem told_sum {n m : Nat} {K h : Nat → Int} (p : Piece n K h 0 n) (s : SameSum n h) (hm : m ≤ n) : sumN (fun t => if rankV n K t < m then 1 else 0) n = m := by
  have e := s (fun x => if rankV n K x.toNat < m then 1 else 0)
  simp only [Int.toNat_natCast] at e
  rw [← e, sumN_congr (g := fun i => if i < m then 1 else 0) (fun i hi => by
    have b := p.2 i (Nat.zero_le _) hi
    obtain ⟨j, hj, hjt, hr, hu⟩ := rank_of p s (t := (h i).toNat) (by omega)
    have : i = j := (hu i hi).1 (by omega)
    rw [hr, ← this]
    by_cases q : i < m
    · rw [if_pos q, if_pos (by omega)]
    · rw [if_neg q, if_neg (by omega)]), sumN_below m n hm]

def partV (size : Int) (f : Nat → Int) (s : Int) (k : Nat) : Int := size * f k / s
def restV (size : Int) (f : Nat → Int) (s : Int) (k : Nat) : Int := size * f k % s
def missV (size : Int) (f : Nat → Int) (s : Int) (n : Nat) : Int := size - sumN (partV size f s) n
def shareV (size : Int) (f : Nat → Int) (s : Int) (n : Nat) (t : Nat) : Int := partV size f s t + if rankV n (restV size f s) t < missV size f s n then 1 else 0

/-- what is asked of weights -/
structure Weights (f : Nat → Int) (n : Nat) (s : Int) : Prop where
  pos : ∀ k, k < n → 0 ≤ f k
  sum : sumN f n = s
  s0 : 0 < s
variable {size s : Int} {f : Nat → Int} {n : Nat}
theorem sumN_pos {f : Nat → Int} {n : Nat} (h : ∀ k, k < n → 0 ≤ f k) : 0 ≤ sumN f n := by
  have := sumN_le (f := fun _ => 0) (g := f) (n := n) h
  rwa [sumN_zero (fun _ _ => rfl)] at this
theorem sumN_mono {f : Nat → Int} {k n : Nat} (h : ∀ i, i < n → 0 ≤ f i) (hk : k ≤ n) : sumN f k ≤ sumN f n := by
  induction n with
  | zero => have : k = 0 := by omega
            subst this; exact Int.le_refl _
  | succ n ih =>
    by_cases e : k = n + 1
    · subst e; exact Int.le_refl _
    · have := ih (fun i hi => h i (by omega)) (by omega); have := h n (by omega); simp only [sumN]; omega
theorem sumN_term {f : Nat → Int} {t n : Nat} (h : ∀ i, i < n → 0 ≤ f i) (ht : t < n) : f t ≤ sumN f n := by
  have a := sumN_mono h (show t + 1 ≤ n by omega)
  have b := sumN_pos (f := f) (n := t) (fun i hi => h i (by omega))
  simp only [sumN] at a; omega
theorem Weights.n0 (W : Weights f n s) : 0 < n := by
  cases n with
  | zero => have := W.sum; have := W.s0; simp [sumN] at *; omega
  | succ n => omega
theorem Weights.part0 (W : Weights f n s) (h : 0 ≤ size) {k : Nat} (hk : k < n) : 0 ≤ partV size f s k := Int.ediv_nonneg (Int.mul_nonneg h (W.pos k hk)) (Int.le_of_lt W.s0)
theorem Weights.rest0 (W : Weights f n s) (k : Nat) : 0 ≤ restV size f s k ∧ restV size f s k < s :=
  ⟨Int.emod_nonneg _ (by have := W.s0; omega), Int.emod_lt_of_pos _ W.s0⟩
theorem pr_eq (k : Nat) : s * partV size f s k + restV size f s k = size * f k := Int.mul_ediv_add_emod _ _
theorem sum_pr (n : Nat) : s * sumN (partV size f s) n + sumN (restV size f s) n = size * sumN f n := by
  rw [← sumN_mul, ← sumN_mul, ← sumN_add]
  exact sumN_congr fun t _ => pr_eq t
theorem Weights.miss (W : Weights f n s) : s * missV size f s n = sumN (restV size f s) n := by
  have := sum_pr (size := size) (f := f) (s := s) n
  rw [W.sum] at this
  unfold missV
  rw [Int.mul_sub, Int.mul_comm s size]; omega
theorem Weights.miss0 (W : Weights f n s) : 0 ≤ missV size f s n := by
  have h := W.miss (size := size)
  have p := sumN_pos (f := restV size f s) (n := n) fun k _ => (W.rest0 k).1
  apply Int.le_of_not_gt; intro q
  have := Int.mul_le_mul_of_nonneg_left (show missV size f s n ≤ -1 by omega) (Int.le_of_lt W.s0)
  have := W.s0
  omega
theorem Weights.miss1 (W : Weights f n s) : missV size f s n < n := by
  have h := W.miss (size := size)
  have p := sumN_le (f := restV size f s) (g := fun _ => s - 1) (n := n) fun k _ => by have := (W.rest0 (size := size) k).2; omega
  have e : ∀ m : Nat, sumN (fun _ => s - 1) m = (m : Int) * (s - 1) := by
    intro m
    induction m with
    | zero => simp [sumN]
    | succ m ih => simp only [sumN, ih]; rw [show ((m + 1 : Nat) : Int) = (m : Int) + 1 by omega, Int.add_mul]; omega
  rw [e n, Int.mul_sub, Int.mul_comm (n : Int) s] at p
  apply Int.lt_of_not_ge; intro q
  have := Int.mul_le_mul_of_nonneg_left q (Int.le_of_lt W.s0)
  have := W.n0
  omega
/-- what is left, round by round -/
theorem Weights.left (W : Weights f n s) (h : 0 ≤ size) {k : Nat} (hk : k ≤ n) : 0 ≤ size - sumN (partV size f s) k ∧ size - sumN (partV size f s) k ≤ size := by
  have a := sumN_mono (f := partV size f s) (fun i hi => W.part0 h hi) hk
  have b := W.miss0 (size := size)
  have c := sumN_pos (f := partV size f s) (n := k) (fun i hi => W.part0 h (by omega))
  unfold missV at b; omega
theorem Weights.room (W : Weights f n s) (h : 0 ≤ size) {k : Nat} (hk : k < n) : partV size f s k + missV size f s n ≤ size := by
  have a := sumN_term (f := partV size f s) (fun i hi => W.part0 h hi) hk
  unfold missV; omega
end Go.Proofs.Ytbcdfkcgcaifjaa
