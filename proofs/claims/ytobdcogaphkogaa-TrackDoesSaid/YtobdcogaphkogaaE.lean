/- Plain facts on parts: quotients and rests of whole numbers, and of bits. -/
import Derived.Deep.QuietTactic
import Derived.BigQuiet
import Derived.Test.YtobdcogaphkogaaD
namespace Go.Proofs.Ytobdcogaphkogaa

theorem div_uniq {x m q r : Int} (hm : 0 < m) (h : q * m + r = x) (h0 : 0 ≤ r) (h1 : r < m) : x / m = q ∧ x % m = r := by
  have hx : x = r + m * q := by rw [← h, Int.mul_comm]; omega
  constructor
  · rw [hx, Int.add_mul_ediv_left _ _ (by omega), Int.ediv_eq_zero_of_lt h0 h1]; omega
  · rw [hx, Int.add_mul_emod_self_left, Int.emod_eq_of_lt h0 h1]

theorem div_mul_add (x m : Int) : x / m * m + x % m = x := by have := Int.mul_ediv_add_emod x m; rw [Int.mul_comm]; exact this

theorem once_neg {a m : Int} (hm : 1 ≤ m) (h : a.tmod m < 0) : a / m = a.tdiv m - 1 ∧ a % m = a.tmod m + m := by
  have e := Int.tdiv_mul_add_tmod a m
  have b := Int.tmod_lt_of_pos a (b := m) (by omega)
  have b2 := Int.tmod_lt_of_pos (-a) (b := m) (by omega)
  rw [Int.neg_tmod] at b2
  exact div_uniq (by omega) (by rw [Int.sub_mul]; omega) (by omega) (by omega)
theorem once_pos {a m : Int} (hm : 1 ≤ m) (h : ¬ a.tmod m < 0) : a / m = a.tdiv m ∧ a % m = a.tmod m := by
  have e := Int.tdiv_mul_add_tmod a m
  have b := Int.tmod_lt_of_pos a (b := m) (by omega)
  exact div_uniq (by omega) e (by omega) (by omega)

theorem add_lt {x y m : Int} (hm : 1 ≤ m) (h : x % m + y % m < m) : (x + y) / m = x / m + y / m ∧ (x + y) % m = x % m + y % m := by
  have ex := div_mul_add x m; have ey := div_mul_add y m
  have bx := Int.emod_nonneg x (b := m) (by omega); have ny := Int.emod_nonneg y (b := m) (by omega)
  exact div_uniq (by omega) (by rw [Int.add_mul]; omega) (by omega) (by omega)
theorem add_ge {x y m : Int} (hm : 1 ≤ m) (h : m ≤ x % m + y % m) : (x + y) / m = x / m + y / m + 1 ∧ (x + y) % m = x % m + y % m - m := by
  have ex := div_mul_add x m; have ey := div_mul_add y m
  have bx := Int.emod_lt_of_pos x (b := m) (by omega); have ny := Int.emod_lt_of_pos y (b := m) (by omega)
  exact div_uniq (by omega) (by rw [Int.add_mul, Int.add_mul]; omega) (by omega) (by omega)

theorem div_bd {x m B : Int} (hm : 1 ≤ m) (hB : 0 ≤ B) (h1 : -B ≤ x) (h2 : x ≤ B) : -B ≤ x / m ∧ x / m ≤ B := by
  constructor
  · have h : (-B) * 1 ≤ (-B) * 1 := Int.le_refl _
    have : -B ≤ x / m := by
      rw [Int.le_ediv_iff_mul_le (by omega)]
      have : B * 1 ≤ B * m := Int.mul_le_mul_of_nonneg_left hm hB
      rw [Int.neg_mul]; omega
    exact this
  · by_cases hx : 0 ≤ x
    · have := Int.ediv_le_self m hx; omega
    · have := Int.ediv_neg_of_neg_of_pos (a := x) (b := m) (by omega) (by omega); omega
theorem div_hi {x m B : Int} (hm : 1 ≤ m) (hB : 0 ≤ B) (h2 : x ≤ B) : x / m ≤ B := by
  by_cases hx : 0 ≤ x
  · have := Int.ediv_le_self m hx; omega
  · have := Int.ediv_neg_of_neg_of_pos (a := x) (b := m) (by omega) (by omega); omega
end Go.Proofs.Ytobdcogaphkogaa

namespace Go.Proofs.Ytobdcogaphkogaa
open Go.RowKit

/-- a share of a number by a whole -/
def sh (x m : Int) : Value := .agg #[.int .u64 (hiW (x / m)), .int .u64 (loW (x / m)), .int .u64 (x % m)]

theorem splus_any (x y m : Int) (w : World) (hm : 1 ≤ m) (hm2 : m ≤ 9223372036854775807) :
    Calls Try.prog 68 #[sh x m, sh y m, .int .u64 m] w fun e w' => e = .returned (sh (x + y) m) ∧ Below w.heap.size w w' := by
  have bx := Int.emod_nonneg x (b := m) (by omega); have ny := Int.emod_nonneg y (b := m) (by omega)
  have cx := Int.emod_lt_of_pos x (b := m) (by omega); have cy := Int.emod_lt_of_pos y (b := m) (by omega)
  unfold sh
  by_cases h : x % m + y % m < m
  · obtain ⟨e1, e2⟩ := add_lt hm h
    rw [e1, e2]
    exact splus_lt _ _ _ _ _ w (by omega) (by omega) (by omega) (by omega) h
  · obtain ⟨e1, e2⟩ := add_ge hm (Int.not_lt.1 h)
    rw [e1, e2]
    exact splus_ge _ _ _ _ _ w (by omega) (by omega) (by omega) (by omega) (Int.not_lt.1 h) hm hm2

theorem Row3.drewN {W : World} {p : Nat} {x y z : Value} (h : Row3 W p x y z) (n : Nat) : Row3 (W.drewN n) p x y z := by
  unfold Row3 at *; simpa using h

theorem wrap_u {n : Int} (h0 : 0 ≤ n) (h1 : n < 18446744073709551616) : IntKind.u64.wrap n = n := by
  simp [IntKind.wrap, IntKind.bits, IntKind.signed]; omega

set_option maxHeartbeats 400000 in
theorem once_any (a m : Int) (w : World) (a1 : -9223372036854775808 ≤ a) (a2 : a ≤ 9223372036854775807) (hm : 1 ≤ m) (hm2 : m ≤ 9223372036854775807) :
    Calls Try.prog 66 #[.int .i64 a, .int .i64 m] w fun e w' => e = .returned (sh a m) ∧ Below w.heap.size w w' := by
  have hd1 := (div_bd (x := a) (B := 9223372036854775808) hm (by omega) a1 (by omega)).1
  have hd2 := div_hi (x := a) (B := 9223372036854775807) hm (by omega) a2
  have t1 := Int.tmod_lt_of_pos a (b := m) (by omega)
  have t2 := Int.tmod_lt_of_pos (-a) (b := m) (by omega)
  rw [Int.neg_tmod] at t2
  have hz : (m == 0) = false := beq_eq_false_iff_ne.2 (by omega)
  unfold sh
  by_cases h : a.tmod m < 0
  · obtain ⟨e1, e2⟩ := once_neg hm h
    have hw := wrap_u (n := a.tmod m + m) (by omega) (by omega)
    rw [e1, e2]
    rw [e1] at hd1 hd2
    clear e1 e2
    go_enter Try.func66, Try.ntmps66
    go_wp2_with fail
    go_quiet (fail)
    go_wp2_with fail
    refine (widen_any (a.tdiv m - 1) _ hd1 hd2).mono ?_
    rintro e w1 ⟨rfl, hb⟩
    obtain ⟨d0, d1, d2, g0, g1, g2⟩ := ((Row3.new w (.int .u64 0) (.int .u64 0) (.int .u64 0) 100).drewN nq).below hb
    go_wp2
    exact bodyPost_ret (v := .agg #[.int .u64 (hiW (a.tdiv m - 1)), .int .u64 (loW (a.tdiv m - 1)), .int .u64 (a.tmod m + m)]) (by simp [results, Try.results66, go_sem, d0, d1, d2]) rfl
      ⟨rfl, (((below_drewN ((Below.refl _ _).alloc (Nat.le_refl _) _) nq).trans (hb.mono (by simp))).setCell (Nat.le_refl _) _ |>.setCell (Nat.le_refl _) _).setCell (Nat.le_refl _) _⟩
  · obtain ⟨e1, e2⟩ := once_pos hm h
    have hw := wrap_u (n := a.tmod m) (by omega) (by omega)
    rw [e1, e2]
    rw [e1] at hd1 hd2
    clear e1 e2
    go_enter Try.func66, Try.ntmps66
    go_wp2_with fail
    go_quiet (fail)
    go_wp2_with fail
    refine (widen_any (a.tdiv m) _ hd1 hd2).mono ?_
    rintro e w1 ⟨rfl, hb⟩
    obtain ⟨d0, d1, d2, g0, g1, g2⟩ := ((Row3.new w (.int .u64 0) (.int .u64 0) (.int .u64 0) 100).drewN nq).below hb
    go_wp2
    exact bodyPost_ret (v := .agg #[.int .u64 (hiW (a.tdiv m)), .int .u64 (loW (a.tdiv m)), .int .u64 (a.tmod m)]) (by simp [results, Try.results66, go_sem, d0, d1, d2]) rfl
      ⟨rfl, (((below_drewN ((Below.refl _ _).alloc (Nat.le_refl _) _) nq).trans (hb.mono (by simp))).setCell (Nat.le_refl _) _ |>.setCell (Nat.le_refl _) _).setCell (Nat.le_refl _) _⟩
end Go.Proofs.Ytobdcogaphkogaa
