/- What follows of portions: their sum, how near they are, and that a greater weight has no lesser one. -/
import Derived.Test.YtbcdfkcgcaifjaaPoKit
namespace Go.Proofs.Ytbcdfkcgcaifjaa
open Go.RowKit
variable {size s total : Int} {f : Nat → Int} {n : Nat}

theorem Weights.sum_share (W : Weights f n s) (S : Sorts n (restV size f s)) : sumN (shareV size f s n) n = size := by
  obtain ⟨h, hp, hs⟩ := S
  have m0 := W.miss0 (size := size); have m1 := W.miss1 (size := size)
  obtain ⟨M, hM⟩ : ∃ M : Nat, missV size f s n = (M : Int) := ⟨(missV size f s n).toNat, by omega⟩
  have e := told_sum (m := M) hp hs (by omega)
  have e2 : sumN (shareV size f s n) n = sumN (partV size f s) n + sumN (fun t => if rankV n (restV size f s) t < (M : Int) then 1 else 0) n := by
    rw [← sumN_add]; apply sumN_congr; intro t _; unfold shareV; rw [hM]
  rw [e2, e]
  unfold missV at hM; omega
theorem Weights.no_more (W : Weights f n s) {k : Nat} (hr : restV size f s k = 0) : shareV size f s n k = partV size f s k := by
  have a : missV size f s n ≤ sumN (fun j => if 0 < restV size f s j then 1 else 0) n := by
    have e1 := W.miss (size := size)
    have e2 := sumN_le (f := restV size f s) (g := fun j => s * (if 0 < restV size f s j then 1 else 0)) (n := n) fun j _ => by
      have b := W.rest0 (size := size) j
      show restV size f s j ≤ s * (if 0 < restV size f s j then 1 else 0)
      split <;> simp <;> omega
    rw [sumN_mul, ← e1] at e2
    exact Int.le_of_mul_le_mul_left e2 W.s0
  have b : sumN (fun j => if 0 < restV size f s j then 1 else 0) n ≤ rankV n (restV size f s) k := by
    unfold rankV
    apply sumN_le
    intro j hj
    by_cases q : 0 < restV size f s j
    · rw [if_pos q, if_pos]
      · exact Int.le_refl _
      · unfold key
        simp only [Int.toNat_natCast]
        rw [hr]
        have := Int.mul_le_mul_of_nonneg_left (show 1 ≤ restV size f s j by omega) (show (0 : Int) ≤ n by omega)
        omega
    · rw [if_neg q]; split <;> omega
  unfold shareV
  rw [if_neg (by omega)]; omega
theorem Weights.mono (W : Weights f n s) (h0 : 0 ≤ size) {i k : Nat} (hi : i < n) (h : f k < f i) : shareV size f s n k ≤ shareV size f s n i := by
  have hw : 1 ≤ s := W.s0
  have p : partV size f s k ≤ partV size f s i := div_mono hw (Int.mul_le_mul_of_nonneg_left (Int.le_of_lt h) h0)
  by_cases e : partV size f s k = partV size f s i
  · have r1 := pr_eq (size := size) (s := s) (f := f) k
    have r2 := pr_eq (size := size) (s := s) (f := f) i
    rw [e] at r1
    by_cases z : size = 0
    · have z1 : restV size f s k = 0 := by unfold restV; rw [z]; simp
      have z2 : restV size f s i = 0 := by unfold restV; rw [z]; simp
      rw [W.no_more z1, W.no_more z2, e]; exact Int.le_refl _
    · have q : restV size f s k + 1 ≤ restV size f s i := by
        have := Int.mul_le_mul_of_nonneg_left (show f k + 1 ≤ f i by omega) h0
        rw [Int.mul_add] at this; omega
      have hkey : key n (restV size f s) i < key n (restV size f s) k := by
        unfold key
        simp only [Int.toNat_natCast]
        have := Int.mul_le_mul_of_nonneg_left q (show (0 : Int) ≤ n by omega)
        rw [Int.mul_add] at this
        omega
      have hr : rankV n (restV size f s) i ≤ rankV n (restV size f s) k := by
        unfold rankV
        apply sumN_le
        intro j _
        by_cases q2 : key n (restV size f s) j < key n (restV size f s) i
        · rw [if_pos q2, if_pos (by omega)]; exact Int.le_refl _
        · rw [if_neg q2]; split <;> omega
      unfold shareV
      rw [e]
      by_cases q3 : rankV n (restV size f s) k < missV size f s n
      · rw [if_pos q3, if_pos (by omega)]; exact Int.le_refl _
      · rw [if_neg q3]; split <;> omega
  · unfold shareV
    split <;> split <;> omega

/-- weights that may be -/
theorem outE_ok (h : outE total f n = 0) : n ≤ 64 ∧ Weights f n (sumN f n) ∧ sumN f n ≤ 9223372036854775807 ∧ total ≠ -9223372036854775808 := by
  unfold outE at h
  by_cases h1 : 64 < n
  · rw [if_pos h1] at h; omega
  · rw [if_neg h1] at h
    by_cases h2 : n = 0 ∨ minN f n < 0 ∨ maxN f n = 0
    · rw [if_pos h2] at h; omega
    · rw [if_neg h2] at h
      by_cases h3 : ¬ (sumN f n ≤ 9223372036854775807) ∨ total = -9223372036854775808
      · rw [if_pos h3] at h; omega
      · have hp : ∀ k, k < n → 0 ≤ f k := fun k hk => by have := minN_le f hk; omega
        obtain ⟨k, k1, k2⟩ := maxN_is f (n := n) (by omega)
        have q1 := sumN_term hp k1
        have q2 := hp k k1
        exact ⟨by omega, ⟨hp, rfl, by omega⟩, by omega, by omega⟩
/-- what the law asks of each portion -/
theorem out_facts (t1 : -9223372036854775808 ≤ total) (t2 : total ≤ 9223372036854775807) (h : outE total f n = 0) {k : Nat} (hk : k < n) :
    (0 ≤ total → 0 ≤ outV total f n k) ∧ (total ≤ 0 → outV total f n k ≤ 0) ∧ (f k = 0 → outV total f n k = 0) ∧ Am (outV total f n k) := by
  obtain ⟨_, W, hs, hm⟩ := outE_ok h
  unfold outV Am
  by_cases ht : 0 ≤ total
  · rw [if_pos ht]
    have a := W.share0 ht hk
    refine ⟨fun _ => a.1, fun q => by omega, fun q => ?_, by omega, by omega⟩
    rw [W.no_more (by unfold restV; rw [q]; simp)]; unfold partV; rw [q]; simp
  · rw [if_neg ht]
    have a := W.share0 (size := -total) (by omega) hk
    refine ⟨fun q => absurd q ht, fun q => by omega, fun q => ?_, by omega, by omega⟩
    rw [W.no_more (by unfold restV; rw [q]; simp)]; unfold partV; rw [q]; simp
theorem sumN_neg (g : Nat → Int) (n : Nat) : sumN (fun t => -g t) n = -sumN g n := by
  induction n with
  | zero => rfl
  | succ n ih => simp only [sumN]; omega
theorem out_sum (h : outE total f n = 0) (S : Sorts n (restV (if 0 ≤ total then total else -total) f (sumN f n))) : sumN (outV total f n) n = total := by
  obtain ⟨_, W, _, _⟩ := outE_ok h
  by_cases ht : 0 ≤ total
  · rw [if_pos ht] at S
    have e : sumN (outV total f n) n = sumN (shareV total f (sumN f n) n) n := sumN_congr fun t _ => by unfold outV; rw [if_pos ht]
    rw [e, W.sum_share S]
  · rw [if_neg ht] at S
    have e : sumN (outV total f n) n = sumN (fun t => -shareV (-total) f (sumN f n) n t) n := sumN_congr fun t _ => by unfold outV; rw [if_neg ht]
    rw [e, sumN_neg, W.sum_share S]; omega
end Go.Proofs.Ytbcdfkcgcaifjaa

namespace Go.Proofs.Ytbcdfkcgcaifjaa
open Go.RowKit

theorem neg_parts {y s : Int} (hs : 0 < s) : (y % s = 0 ∧ (-y) % s = 0 ∧ (-y) / s = -(y / s)) ∨ (y % s ≠ 0 ∧ (-y) % s ≠ 0 ∧ (-y) / s = -(y / s) - 1) := by
  have a1 := Int.mul_ediv_add_emod y s
  have a2 := Int.mul_ediv_add_emod (-y) s
  have b1 := Int.emod_nonneg y (b := s) (by omega)
  have b2 := Int.emod_nonneg (-y) (b := s) (by omega)
  have c1 := Int.emod_lt_of_pos y hs
  have c2 := Int.emod_lt_of_pos (-y) hs
  generalize y / s = q at *
  generalize (-y) / s = p at *
  generalize y % s = r at *
  generalize (-y) % s = t at *
  have e : s * (p + q) = -(r + t) := by rw [Int.mul_add]; omega
  by_cases z : r + t = 0
  · left
    have : s * (p + q) = 0 := by omega
    rcases Int.mul_eq_zero.1 this with h | h
    · omega
    · refine ⟨by omega, by omega, by omega⟩
  · right
    have h1 : p + q < 0 := by
      apply Int.lt_of_not_ge; intro h
      have := Int.mul_nonneg (Int.le_of_lt hs) h; omega
    have h2 : -2 < p + q := by
      apply Int.lt_of_not_ge; intro h
      have := Int.mul_le_mul_of_nonneg_left h (Int.le_of_lt hs); omega
    have h3 : p + q = -1 := by omega
    rw [h3] at e
    refine ⟨by omega, by omega, by omega⟩

variable {total : Int} {f : Nat → Int} {n : Nat}
theorem near_facts (h : outE total f n = 0) {k : Nat} (hk : k < n) :
    outV total f n k = total * f k / sumN f n ∨ (total * f k % sumN f n ≠ 0 ∧ outV total f n k - 1 = total * f k / sumN f n) := by
  obtain ⟨_, W, _, _⟩ := outE_ok h
  unfold outV
  by_cases ht : 0 ≤ total
  · rw [if_pos ht]
    by_cases r : restV total f (sumN f n) k = 0
    · left; rw [W.no_more r]; rfl
    · unfold shareV
      split
      · right; exact ⟨r, by unfold partV; omega⟩
      · left; unfold partV; omega
  · rw [if_neg ht]
    have q := neg_parts (y := -total * f k) W.s0
    have e : -(-total * f k) = total * f k := by rw [Int.neg_mul]; omega
    rw [e] at q
    have W' := W.share0 (size := -total) (by omega) hk
    by_cases r : restV (-total) f (sumN f n) k = 0
    · rw [W.no_more r]
      rcases q with ⟨q1, q2, q3⟩ | ⟨q1, q2, q3⟩
      · left; unfold partV; omega
      · exact absurd r q1
    · rcases q with ⟨q1, q2, q3⟩ | ⟨q1, q2, q3⟩
      · exact absurd q1 r
      · unfold shareV
        split
        · left; unfold partV; omega
        · right; refine ⟨q2, ?_⟩; unfold partV; omega
theorem out_mono (h : outE total f n = 0) (ht : 0 ≤ total) {i k : Nat} (hi : i < n) (hlt : f k < f i) : outV total f n k ≤ outV total f n i := by
  obtain ⟨_, W, _, _⟩ := outE_ok h
  unfold outV; rw [if_pos ht, if_pos ht]; exact W.mono ht hi hlt
end Go.Proofs.Ytbcdfkcgcaifjaa
