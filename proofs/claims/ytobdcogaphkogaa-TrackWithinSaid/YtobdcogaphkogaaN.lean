/- Plain facts on parts: quotients and rests of whole numbers, and of bits. -/
namespace Go.Proofs.Ytobdcogaphkogaa

theorem div_uniq {x m q r : Int} (hm : 0 < m) (h : q * m + r = x) (h0 : 0 ≤ r) (h1 : r < m) : x / m = q ∧ x % m = r := by
  have hx : x = r + m * q := by rw [← h, Int.mul_comm]; omega
  constructor
  · rw [hx, Int.add_mul_ediv_left _ _ (by omega), Int.ediv_eq_zero_of_lt h0 h1]; omega
  · rw [hx, Int.add_mul_emod_self_left, Int.emod_eq_of_lt h0 h1]

theorem div_mul_add (x m : Int) : x / m * m + x % m = x := by have := Int.mul_ediv_add_emod x m; rw [Int.mul_comm]; exact this

theorem once_neg {a m : Int} (hm : 1 ≤ m) (h : a.tmod m < 0) : a / m = a.tdiv m - 1 ∧ a % m = a.tmod m + m := by
  have e := Int.tdiv_mul_add_tmod a m
  have b := Int.tmod_lt_of_pos a (b := m) (by omega)
  have b2 := Int.tmod_lt_of_pos (-a) (b := m) (by omega)
  rw [Int.neg_tmod] at b2
  exact div_uniq (by omega) (by rw [Int.sub_mul]; omega) (by omega) (by omega)
theorem once_pos {a m : Int} (hm : 1 ≤ m) (h : ¬ a.tmod m < 0) : a / m = a.tdiv m ∧ a % m = a.tmod m := by
  have e := Int.tdiv_mul_add_tmod a m
  have b := Int.tmod_lt_of_pos a (b := m) (by omega)
  exact div_uniq (by omega) e (by omega) (by omega)

theorem add_lt {x y m : Int} (hm : 1 ≤ m) (h : x % m + y % m < m) : (x + y) / m = x / m + y / m ∧ (x + y) % m = x % m + y % m := by
  have ex := div_mul_add x m; have ey := div_mul_add y m
  have bx := Int.emod_nonneg x (b := m) (by omega); have ny := Int.emod_nonneg y (b := m) (by omega)
  exact div_uniq (by omega) (by rw [Int.add_mul]; omega) (by omega) (by omega)
theorem add_ge {x y m : Int} (hm : 1 ≤ m) (h : m ≤ x % m + y % m) : (x + y) / m = x / m + y / m + 1 ∧ (x + y) % m = x % m + y % m - m := by
  have ex := div_mul_add x m; have ey := div_mul_add y m
  have bx := Int.emod_lt_of_pos x (b := m) (by omega); have ny := Int.emod_lt_of_pos y (b := m) (by omega)
  exact div_uniq (by omega) (by rw [Int.add_mul, Int.add_mul]; omega) (by omega) (by omega)

theorem div_bd {x m B : Int} (hm : 1 ≤ m) (hB : 0 ≤ B) (h1 : -B ≤ x) (h2 : x ≤ B) : -B ≤ x / m ∧ x / m ≤ B := by
  constructor
  · have h : (-B) * 1 ≤ (-B) * 1 := Int.le_refl _
    have : -B ≤ x / m := by
      rw [Int.le_ediv_iff_mul_le (by omega)]
      have : B * 1 ≤ B * m := Int.mul_le_mul_of_nonneg_left hm hB
      rw [Int.neg_mul]; omega
    exact this
  · by_cases hx : 0 ≤ x
    · have := Int.ediv_le_self m hx; omega
    · have := Int.ediv_neg_of_neg_of_pos (a := x) (b := m) (by omega) (by omega); omega
theorem div_hi {x m B : Int} (hm : 1 ≤ m) (hB : 0 ≤ B) (h2 : x ≤ B) : x / m ≤ B := by
  by_cases hx : 0 ≤ x
  · have := Int.ediv_le_self m hx; omega
  · have := Int.ediv_neg_of_neg_of_pos (a := x) (b := m) (by omega) (by omega); omega
end Go.Proofs.Ytobdcogaphkogaa
