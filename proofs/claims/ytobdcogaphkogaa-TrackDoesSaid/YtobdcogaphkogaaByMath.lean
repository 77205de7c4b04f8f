/- Plain facts on products of digits. -/
import Derived.Test.YtobdcogaphkogaaP
namespace Go.Proofs.Ytobdcogaphkogaa

theorem dg_set_ne {l : List Int} {j k : Nat} {x : Int} (h : j ≠ k) : dg (l.set j x) k = dg l k := by
  unfold dg; simp only [List.getD_eq_getElem?_getD]; rw [List.getElem?_set_ne h]
theorem dg_set_eq {l : List Int} {j : Nat} {x : Int} (h : j < l.length) : dg (l.set j x) j = x := by
  unfold dg; rw [getD_lt (by simpa using h)]; simp
theorem vTo_set {l : List Int} {j : Nat} {x : Int} (hj : j < l.length) (k : Nat) : vTo (l.set j x) k = vTo l k + (if j < k then (x - dg l j) * 1000 ^ j else 0) := by
  induction k with
  | zero => simp [vTo]
  | succ k ih =>
    simp only [vTo]
    rw [ih]
    by_cases h1 : j = k
    · subst h1
      rw [dg_set_eq hj, if_neg (by omega), if_pos (by omega), Int.sub_mul]; omega
    · rw [dg_set_ne h1]
      by_cases h2 : j < k
      · rw [if_pos h2, if_pos (by omega)]; omega
      · rw [if_neg h2, if_neg (by omega)]; omega
theorem lval_set {l : List Int} {j : Nat} {x : Int} (hj : j < l.length) : lval (l.set j x) = lval l + (x - dg l j) * 1000 ^ j := by
  have h1 := vTo_set (x := x) hj l.length
  rw [vTo_len] at h1
  have h2 := vTo_len (l.set j x)
  rw [List.length_set] at h2
  rw [← h2, h1, if_pos hj]
theorem digOk_set {l : List Int} {j : Nat} {x : Int} (h : DigOk l) (h0 : 0 ≤ x) (h9 : x ≤ 999) : DigOk (l.set j x) := by
  intro d hd
  rcases List.mem_or_eq_of_mem_set hd with hd | rfl
  · exact h d hd
  · exact ⟨h0, h9⟩
/-- a digit takes a number, and hands its thousands on -/
theorem put_carry {l : List Int} {j : Nat} {p t : Int} (hj : j < l.length) (h : lval l + p * 1000 ^ j = t) :
    lval (l.set j ((dg l j + p) % 1000)) + (dg l j + p) / 1000 * 1000 ^ (j + 1) = t := by
  rw [lval_set hj]
  have c := carry (dg l j + p) (1000 ^ j)
  rw [Int.pow_succ, Int.sub_mul]
  rw [Int.add_mul] at c
  omega
/-- a carry ends ahead of the end -/
theorem carry_in {l : List Int} {j m : Nat} {o t : Int} (h : DigOk l) (ho : 1 ≤ o) (ht : t < 1000 ^ m) (he : lval l + o * 1000 ^ j = t) : j < m := by
  have h1 := (lval_bd h).1
  by_cases hc : j < m
  · exact hc
  · obtain ⟨d, rfl⟩ : ∃ d, j = m + d := ⟨j - m, by omega⟩
    have hp := pow_pos' m; have hq := pow_pos' d; have hpq := pow_pos' (m + d)
    have h2 : 1 * 1000 ^ (m + d) ≤ o * 1000 ^ (m + d) := Int.mul_le_mul_of_nonneg_right ho (by omega)
    have h3 : (1000 : Int) ^ m * 1 ≤ 1000 ^ (m + d) := by rw [Int.pow_add]; exact Int.mul_le_mul_of_nonneg_left (by omega) (by omega)
    omega
/-- what the rows and digits gone through so far are -/
def mulTo (a b : List Int) (i k : Nat) : Int := vTo a i * lval b + dg a i * 1000 ^ i * vTo b k
theorem mulTo_step (a b : List Int) (i k : Nat) : mulTo a b i (k + 1) = mulTo a b i k + dg a i * dg b k * 1000 ^ (i + k) := by
  unfold mulTo
  simp only [vTo]
  rw [Int.mul_add, Int.pow_add, ← Int.add_assoc]
  congr 1
  rw [Int.mul_assoc, Int.mul_assoc, ← Int.mul_assoc (1000 ^ i), Int.mul_comm (1000 ^ i) (dg b k), Int.mul_assoc]
theorem mulTo_row (a b : List Int) (i : Nat) : mulTo a b i b.length = mulTo a b (i + 1) 0 := by
  unfold mulTo
  simp only [vTo]
  rw [vTo_len, Int.mul_zero, Int.add_zero, Int.add_mul]
theorem mulTo_end (a b : List Int) : mulTo a b a.length 0 = lval a * lval b := by
  unfold mulTo; rw [vTo_len]; simp [vTo]
theorem mul_bd' {x y X Y : Int} (hx : 0 ≤ x) (hX : x < X) (hy : 0 ≤ y) (hY : y < Y) : x * y < X * Y := by
  have h1 : x * y ≤ x * Y := Int.mul_le_mul_of_nonneg_left (by omega) hx
  have h2 : (x + 1) * Y ≤ X * Y := Int.mul_le_mul_of_nonneg_right (by omega) (by omega)
  rw [Int.add_mul, Int.one_mul] at h2
  omega
theorem mulTo_lt {a b : List Int} (ha : DigOk a) (hb : DigOk b) {i k : Nat} (hi : i < a.length) (hk : k ≤ b.length) : mulTo a b i k < 1000 ^ (a.length + b.length) := by
  have hA : vTo a (i + 1) ≤ lval a := by
    have key : ∀ d, i + 1 + d ≤ a.length → vTo a (i + 1) ≤ vTo a (i + 1 + d) := by
      intro d
      induction d with
      | zero => intro _; exact Int.le_refl _
      | succ d ih =>
        intro hd
        have h1 := ih (by omega)
        have h2 := (dg_ok ha (i + 1 + d)).1; have h3 := pow_pos' (i + 1 + d)
        have h4 : 0 ≤ dg a (i + 1 + d) * 1000 ^ (i + 1 + d) := Int.mul_nonneg h2 (by omega)
        show _ ≤ vTo a (i + 1 + d + 1)
        simp only [vTo] at *; omega
    have := key (a.length - (i + 1)) (by omega)
    rw [show i + 1 + (a.length - (i + 1)) = a.length by omega, vTo_len] at this
    exact this
  have hB : vTo b k ≤ lval b := by
    have key : ∀ d, k + d ≤ b.length → vTo b k ≤ vTo b (k + d) := by
      intro d
      induction d with
      | zero => intro _; exact Int.le_refl _
      | succ d ih =>
        intro hd
        have h1 := ih (by omega)
        have h2 := (dg_ok hb (k + d)).1; have h3 := pow_pos' (k + d)
        have h4 : 0 ≤ dg b (k + d) * 1000 ^ (k + d) := Int.mul_nonneg h2 (by omega)
        show _ ≤ vTo b (k + d + 1)
        simp only [vTo]; omega
    have := key (b.length - k) (by omega)
    rw [show k + (b.length - k) = b.length by omega, vTo_len] at this
    exact this
  have ba := lval_bd ha; have bb := lval_bd hb
  have hd := dg_ok ha i; have hp := pow_pos' i
  have h1 : dg a i * 1000 ^ i * vTo b k ≤ dg a i * 1000 ^ i * lval b := Int.mul_le_mul_of_nonneg_left hB (Int.mul_nonneg hd.1 (by omega))
  have h2 : vTo a (i + 1) * lval b ≤ lval a * lval b := Int.mul_le_mul_of_nonneg_right hA bb.1
  have h3 := mul_bd' ba.1 ba.2 bb.1 bb.2
  rw [Int.pow_add]
  unfold mulTo
  simp only [vTo, Int.add_mul] at h2
  omega
end Go.Proofs.Ytobdcogaphkogaa
