/- What follows of portions: their sum, how near they are, and that a greater weight has no lesser one. -/
import Derived.Test.YtklaonoekmhakaaGreatPoKit
namespace Go.Proofs.YtklaonoekmhakaaGreat
open Go.RowKit
variable {size s total : Int} {f : Nat → Int} {n : Nat}

theorem Weights.sum_share (W : Weights f n s) (S : Sorts n (restV size f s)) : sumN (shareV size f s n) n = size := by
  obtain ⟨h, hp, hs⟩ := S
  have m0 := W.miss0 (size := size); have m1 := W.miss1 (size := size)
  obtain ⟨M, hM⟩ : ∃ M : Nat, missV size f s n = (M : Int) := ⟨(missV size f s n).toNat, by omega⟩
  have e := told_sum (m := M) hp hs (by omega)
  have e2 : sumN (shareV size f s n) n = sumN (partV size f s) n + sumN (fun t => if rankV n (restV size f s) t < (M : Int) then 1 else 0) n := by
    rw [← sumN_add]; apply sumN_congr; intro t _; unfold shareV; rw [hM]
  rw [e2, e]
  unfold missV at hM; omega
theorem Weights.no_more (W : Weights f n s) {k : Nat} (hr : restV size f s k = 0) : shareV size f s n k = partV size f s k := by
  have a : missV size f s n ≤ sumN (fun j => if 0 < restV size f s j then 1 else 0) n := by
    have e1 := W.miss (size := size)
    have e2 := sumN_le (f := restV size f s) (g := fun j => s * (if 0 < restV size f s j then 1 else 0)) (n := n) fun j _ => by
      have b := W.rest0 (size := size) j
      show restV size f s j ≤ s * (if 0 < restV size f s j then 1 else 0)
      split <;> simp <;> omega
    rw [sumN_mul, ← e1] at e2
    exact Int.le_of_mul_le_mul_left e2 W.s0
  have b : sumN (fun j => if 0 < restV size f s j then 1 else 0) n ≤ rankV n (restV size f s) k := by
    unfold rankV
    apply sumN_le
    intro j hj
    by_cases q : 0 < restV size f s j
    · rw [if_pos q, if_pos]
      · exact Int.le_refl _
      · unfold key
        simp only [Int.toNat_natCast]
        rw [hr]
        have := Int.mul_le_mul_of_nonneg_left (show 1 ≤ restV size f s j by omega) (show (0 : Int) ≤ n by omega)
        omega
    · rw [if_neg q]; split <;> omega
  unfold shareV
  rw [if_neg (by omega)]; omega
theorem Weights.mono (W : Weights f n s) (h0 : 0 ≤ size) {i k : Nat} (hi : i < n) (h : f k < f i) : shareV size f s n k ≤ shareV size f s n i := by
  have hw : 1 ≤ s := W.s0
  have p : partV size f s k ≤ partV size f s i := div_mono hw (Int.mul_le_mul_of_nonneg_left (Int.le_of_lt h) h0)
  by_cases e : partV size f s k = partV size f s i
  · have r1 := pr_eq (size := size) (s := s) (f := f) k
    have r2 := pr_eq (size := size) (s := s) (f := f) i
    rw [e] at r1
    by_cases z : size = 0
    · have z1 : restV size f s k = 0 := by unfold restV; rw [z]; simp
      have z2 : restV size f s i = 0 := by unfold restV; rw [z]; simp
      rw [W.no_more z1, W.no_more z2, e]; exact Int.le_refl _
    · have q : restV size f s k + 1 ≤ restV size f s i := by
        have := Int.mul_le_mul_of_nonneg_left (show f k + 1 ≤ f i by omega) h0
        rw [Int.mul_add] at this; omega
      have hkey : key n (restV size f s) i < key n (restV size f s) k := by
        unfold key
        simp only [Int.toNat_natCast]
        have := Int.mul_le_mul_of_nonneg_left q (show (0 : Int) ≤ n by omega)
        rw [Int.mul_add] at this
        omega
      have hr : rankV n (restV size f s) i ≤ rankV n (restV size f s) k := by
        unfold rankV
        apply sumN_le
        intro j _
        by_cases q2 : key n (restV size f s) j < key n (restV size f s) i
        · rw [if_pos q2, if_pos (by omega)]; exact Int.le_refl _
        · rw [if_neg q2]; split <;> omega
      unfold shareV
      rw [e]
      by_cases q3 : rankV n (restV size f s) k < missV size f s n
      · rw [if_pos q3, if_pos (by omega)]; exact Int.le_refl _
      · rw [if_neg q3]; split <;> omega
  · unfold shareV
    split <;> split <;> omega

/-- weights that may be -/
theorem outE_ok (h : outE total f n = 0) : n ≤ 64 ∧ Weights f n (sumN f n) ∧ sumN f n ≤ 9223372036854775807 ∧ total ≠ -9223372036854775808 := by
  unfold outE at h
  by_cases h1 : 64 < n
  · rw [if_pos h1] at h; omega
  · rw [if_neg h1] at h
    by_cases h2 : n = 0 ∨ minN f n < 0 ∨ maxN f n = 0
    · rw [if_pos h2] at h; omega
    · rw [if_neg h2] at h
      by_cases h3 : ¬ (sumN f n ≤ 9223372036854775807) ∨ total = -9223372036854775808
      · rw [if_pos h3] at h; omega
      · have hp : ∀ k, k < n → 0 ≤ f k := fun k hk => by have := minN_le f hk; omega
        obtain ⟨k, k1, k2⟩ := maxN_is f (n := n) (by omega)
        have q1 := sumN_term hp k1
        have q2 := hp k k1
        exact ⟨by omega, ⟨hp, rfl, by omega⟩, by omega, by omega⟩
/-- what the law asks of each portion -/
theorem out_facts (t1 : -9223372036854775808 ≤ total) (t2 : total ≤ 9223372036854775807) (h : outE total f n = 0) {k : Nat} (hk : k < n) :
    (0 ≤ total → 0 ≤ outV total f n k) ∧ (total ≤ 0 → outV total f n k ≤ 0) ∧ (f k = 0 → outV total f n k = 0) ∧ Am (outV total f n k) := by
  obtain ⟨_, W, hs, hm⟩ := outE_ok h
  unfold outV Am
  by_cases ht : 0 ≤ total
  · rw [if_pos ht]
    have a := W.share0 ht hk
    refine ⟨fun _ => a.1, fun q => by omega, fun q => ?_, by omega, by omega⟩
    rw [W.no_more (by unfold restV; rw [q]; simp)]; unfold partV; rw [q]; simp
  · rw [if_neg ht]
    have a := W.share0 (size := -total) (by omega) hk
    refine ⟨fun q => absurd q ht, fun q => by omega, fun q => ?_, by omega, by omega⟩
    rw [W.no_more (by unfold restV; rw [q]; simp)]; unfold partV; rw [q]; simp
theorem sumN_neg (g : Nat → Int) (n : Nat) : sumN (fun t => -g t) n = -sumN g n := by
  induction n with
  | zero => rfl
  | succ n ih => simp only [sumN]; omega
theorem out_sum (h : outE total f n = 0) (S : Sorts n (restV (if 0 ≤ total then total else -total) f (sumN f n))) : sumN (outV total f n) n = total := by
  obtain ⟨_, W, _, _⟩ := outE_ok h
  by_cases ht : 0 ≤ total
  · rw [if_pos ht] at S
    have e : sumN (outV total f n) n = sumN (shareV total f (sumN f n) n) n := sumN_congr fun t _ => by unfold outV; rw [if_pos ht]
    rw [e, W.sum_share S]
  · rw [if_neg ht] at S
    have e : sumN (outV total f n) n = sumN (fun t => -shareV (-total) f (sumN f n) n t) n := sumN_congr fun t _ => by unfold outV; rw [if_neg ht]
    rw [e, sumN_neg, W.sum_share S]; omega
end Go.Proofs.YtklaonoekmhakaaGreat

namespace Go.Proofs.YtklaonoekmhakaaGreat
open Go.RowKit

theorem neg_parts {y s : Int} (hs : 0 < s) : (y % s = 0 ∧ (-y) % s = 0 ∧ (-y) / s = -(y / s)) ∨ (y % s ≠ 0 ∧ (-y) % s ≠ 0 ∧ (-y) / s = -(y / s) - 1) := by
  have a1 := Int.mul_ediv_add_emod y s
  have a2 := Int.mul_ediv_add_emod (-y) s
  have b1 := Int.emod_nonneg y (b := s) (by omega)
  have b2 := Int.emod_nonneg (-y) (b := s) (by omega)
  have c1 := Int.emod_lt_of_pos y hs
  have c2 := Int.emod_lt_of_pos (-y) hs
  generalize y / s = q at *
  generalize (-y) / s = p at *
  generalize y % s = r at *
  generalize (-y) % s = t at *
  have e : s * (p + q) = -(r + t) := by rw [Int.mul_add]; omega
  by_cases z : r + t = 0
  · left
    have : s * (p + q) = 0 := by omega
    rcases Int.mul_eq_zero.1 this with h | h
    · omega
    · refine ⟨by omega, by omega, by omega⟩
  · right
    have h1 : p + q < 0 := by
      apply Int.lt_of_not_ge; intro h
      have := Int.mul_nonneg (Int.le_of_lt hs) h; omega
    have h2 : -2 < p + q := by
      apply Int.lt_of_not_ge; intro h
      have := Int.mul_le_mul_of_nonneg_left h (Int.le_of_lt hs); omega
    have h3 : p + q = -1 := by omega
    rw [h3] at e
    refine ⟨by omega, by omega, by omega⟩

variable {total : Int} {f : Nat → Int} {n : Nat}
theorem near_facts (h : outE total f n = 0) {k : Nat} (hk : k < n) :
    outV total f n k = total * f k / sumN f n ∨ (total * f k % sumN f n ≠ 0 ∧ outV total f n k - 1 = total * f k / sumN f n) := by
  obtain ⟨_, W, _, _⟩ := outE_ok h
  unfold outV
  by_cases ht : 0 ≤ total
  · rw [if_pos ht]
    by_cases r : restV total f (sumN f n) k = 0
    · left; rw [W.no_more r]; rfl
    · unfold shareV
      split
      · right; exact ⟨r, by unfold partV; omega⟩
      · left; unfold partV; omega
  · rw [if_neg ht]
    have q := neg_parts (y := -total * f k) W.s0
    have e : -(-total * f k) = total * f k := by rw [Int.neg_mul]; omega
    rw [e] at q
    have W' := W.share0 (size := -total) (by omega) hk
    by_cases r : restV (-total) f (sumN f n) k = 0
    · rw [W.no_more r]
      rcases q with ⟨q1, q2, q3⟩ | ⟨q1, q2, q3⟩
      · left; unfold partV; omega
      · exact absurd r q1
    · rcases q with ⟨q1, q2, q3⟩ | ⟨q1, q2, q3⟩
      · exact absurd q1 r
      · unfold shareV
        split
        · left; unfold partV; omega
        · right; refine ⟨q2, ?_⟩; unfold partV; omega
end Go.Proofs.YtklaonoekmhakaaGreat

namespace Go.Proofs.YtklaonoekmhakaaGreat
open Go.RowKit

theorem tellE_or (v : Int) : (tellE v = 0 ∧ tellV v = v ∧ Am v) ∨ (tellE v = 3 ∧ tellV v = 0 ∧ ¬ Am v) := by
  unfold tellE tellV Am
  by_cases h : -9223372036854775808 ≤ v ∧ v ≤ 9223372036854775807
  · left; rw [if_pos h, if_pos h]; exact ⟨rfl, rfl, h⟩
  · right; rw [if_neg h, if_neg h]; exact ⟨rfl, rfl, h⟩
theorem tellV_am (v : Int) : Am (tellV v) := by
  rcases tellE_or v with q | q
  · rw [q.2.1]; exact q.2.2
  · rw [q.2.1]; unfold Am; omega

/-- what is left of a total -/
def leaveE (total : Int) (g : Nat → Int) (n : Nat) : Int := if tellE (sumN g n) = 0 then tellE (total - sumN g n) else 3
def leaveV (total : Int) (g : Nat → Int) (n : Nat) : Int := if tellE (sumN g n) = 0 then tellV (total - sumN g n) else 0
theorem leave_am (total : Int) (g : Nat → Int) (n : Nat) : Am (leaveV total g n) := by
  unfold leaveV; split
  · exact tellV_am _
  · unfold Am; omega
theorem leave_ok {total : Int} {g : Nat → Int} {n : Nat} (h : leaveE total g n = 0) : Am (sumN g n) ∧ leaveV total g n = total - sumN g n := by
  unfold leaveE at h; unfold leaveV
  rcases tellE_or (sumN g n) with q | q
  · rw [if_pos q.1] at h ⊢
    rcases tellE_or (total - sumN g n) with r | r
    · exact ⟨q.2.2, r.2.1⟩
    · omega
  · rw [if_neg (by omega)] at h; omega
theorem leave_err {total : Int} {g : Nat → Int} {n : Nat} (h : leaveE total g n ≠ 0) : leaveE total g n = 3 := by
  unfold leaveE at h ⊢
  by_cases q : tellE (sumN g n) = 0
  · rw [if_pos q] at h ⊢
    rcases tellE_or (total - sumN g n) with r | r
    · exact absurd r.1 h
    · exact r.1
  · rw [if_neg q]

/-- by all -/
def allE (price : Int) (f : Nat → Int) (n : Nat) : Int := if price < 0 then 1 else outE price f n

/-- again -/
def overB (d v : Nat → Int) : Nat → Bool
  | 0 => false
  | k + 1 => overB d v k || decide (tellE (d k + v k) = 3)
theorem overB_no {d v : Nat → Int} {n : Nat} (h : overB d v n = false) {t : Nat} (ht : t < n) : tellE (d t + v t) = 0 ∧ tellV (d t + v t) = d t + v t ∧ Am (d t + v t) := by
  induction n with
  | zero => omega
  | succ n ih =>
    simp only [overB, Bool.or_eq_false_iff, decide_eq_false_iff_not] at h
    by_cases e : t = n
    · subst e
      rcases tellE_or (d t + v t) with q | q
      · exact q
      · exact absurd q.1 h.2
    · exact ih h.1 (by omega)
theorem overB_yes {d v : Nat → Int} {n t : Nat} (ht : t < n) (h : tellE (d t + v t) = 3) : overB d v n = true := by
  induction n with
  | zero => omega
  | succ n ih =>
    simp only [overB, Bool.or_eq_true, decide_eq_true_iff]
    by_cases e : t = n
    · subst e; exact .inr h
    · exact .inl (ih (by omega))
def againE (total : Int) (d : Nat → Int) (n : Nat) (f : Nat → Int) (k : Nat) : Int :=
  if n ≠ k then 1 else if leaveE total d n ≠ 0 then 3 else if outE (leaveV total d n) f k ≠ 0 then outE (leaveV total d n) f k else if overB d (outV (leaveV total d n) f k) n then 3 else 0
def againV (total : Int) (d : Nat → Int) (n : Nat) (f : Nat → Int) (k : Nat) (t : Nat) : Int := d t + outV (leaveV total d n) f k t
theorem again_ok {total : Int} {d f : Nat → Int} {n k : Nat} (h : againE total d n f k = 0) : n = k ∧ leaveE total d n = 0 ∧ outE (leaveV total d n) f k = 0 ∧ overB d (outV (leaveV total d n) f k) n = false := by
  unfold againE at h
  by_cases h1 : n ≠ k
  · rw [if_pos h1] at h; omega
  · rw [if_neg h1] at h
    by_cases h2 : leaveE total d n ≠ 0
    · rw [if_pos h2] at h; omega
    · rw [if_neg h2] at h
      by_cases h3 : outE (leaveV total d n) f k ≠ 0
      · rw [if_pos h3] at h; exact absurd h h3
      · rw [if_neg h3] at h
        by_cases h4 : overB d (outV (leaveV total d n) f k) n = true
        · rw [if_pos h4] at h; omega
        · exact ⟨by omega, by omega, by omega, by simpa using h4⟩
theorem again_am {total : Int} {d f : Nat → Int} {n k : Nat} (h : againE total d n f k = 0) {t : Nat} (ht : t < k) : Am (againV total d n f k t) := by
  obtain ⟨e, _, _, h4⟩ := again_ok h
  subst e
  exact (overB_no h4 ht).2.2
/-- together they are the total -/
theorem again_sum {total : Int} {d f : Nat → Int} {n k : Nat} (h : againE total d n f k = 0) (S : Sorts k (restV (if 0 ≤ leaveV total d n then leaveV total d n else -leaveV total d n) f (sumN f k))) : sumN (againV total d n f k) k = total := by
  obtain ⟨e, h2, h3, _⟩ := again_ok h
  subst e
  have := out_sum h3 S
  have e : sumN (againV total d n f n) n = sumN d n + sumN (outV (leaveV total d n) f n) n := by rw [← sumN_add]; rfl
  rw [e, this, (leave_ok h2).2]; omega

/-- places -/
def inB (p : Nat → Int) : Nat → Int → Bool
  | 0, _ => false
  | m + 1, t => inB p m t || (p m == t)
def befV (p : Nat → Int) : Nat → Int
  | 0 => -1
  | m + 1 => p m
def risesB (p : Nat → Int) (n : Nat) : Nat → Bool
  | 0 => true
  | m + 1 => risesB p n m && !(decide (p m ≤ befV p m) || decide ((n : Int) ≤ p m))
/-- what others get: their Alone -/
def othV (f p : Nat → Int) (m : Nat) (t : Nat) : Int := if inB p m (t : Int) then 0 else f t
def putV (g p v : Nat → Int) : Nat → Nat → Int
  | 0, t => g t
  | m + 1, t => if (t : Int) = p m then v m else putV g p v m t
def picV (f p : Nat → Int) (i : Nat) : Int := f (p i).toNat
/-- of some -/
def someE (price : Int) (f : Nat → Int) (n : Nat) (p : Nat → Int) (m : Nat) : Int :=
  if price < 0 ∨ ¬ (0 < m ∧ risesB p n m = true) ∨ minN f n < 0 then 1
  else if leaveE price (othV f p m) n ≠ 0 then 3
  else if leaveV price (othV f p m) n < 0 then 1
  else outE (leaveV price (othV f p m) n) (picV f p) m
def someV (price : Int) (f : Nat → Int) (n : Nat) (p : Nat → Int) (m : Nat) : Nat → Int :=
  putV (othV f p m) p (outV (leaveV price (othV f p m) n) (picV f p) m) m
structure SomeOk (price : Int) (f : Nat → Int) (n : Nat) (p : Nat → Int) (m : Nat) : Prop where
  p0 : 0 ≤ price
  m0 : 0 < m
  rises : risesB p n m = true
  pos : ∀ t, t < n → 0 ≤ f t
  leave : leaveE price (othV f p m) n = 0
  left : 0 ≤ leaveV price (othV f p m) n
  out : outE (leaveV price (othV f p m) n) (picV f p) m = 0
variable {price : Int} {f p : Nat → Int} {n m : Nat}
end Go.Proofs.YtklaonoekmhakaaGreat
