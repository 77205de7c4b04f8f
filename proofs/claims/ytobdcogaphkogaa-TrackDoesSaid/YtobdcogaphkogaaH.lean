/- Contracts: Part and Rest. -/
import Derived.Test.YtobdcogaphkogaaG
namespace Go.Proofs.Ytobdcogaphkogaa
open Go.RowKit

theorem mul_bd {a p : Int} (a1 : -9223372036854775808 ≤ a) (a2 : a ≤ 9223372036854775807) (p1 : 0 ≤ p) (p2 : p ≤ 9223372036854775807) :
    -85070591730234615865843651857942052864 ≤ a * p ∧ a * p ≤ 85070591730234615865843651857942052864 := by
  constructor
  · have h1 : -9223372036854775808 * p ≤ a * p := Int.mul_le_mul_of_nonneg_right a1 p1
    omega
  · have h1 : a * p ≤ 9223372036854775807 * p := Int.mul_le_mul_of_nonneg_right a2 p1
    omega
theorem part_ok {a p m : Int} (a1 : -9223372036854775808 ≤ a) (a2 : a ≤ 9223372036854775807) (p1 : 0 ≤ p) (p2 : p ≤ 9223372036854775807) (hm : 1 ≤ m) : wideOk (a * p / m) := by
  have h := mul_bd a1 a2 p1 p2
  have d := div_bd (x := a * p) (B := 85070591730234615865843651857942052864) hm (by omega) h.1 h.2
  unfold wideOk; omega

theorem field0 (x y z : Value) (w : World) : (Instr.field 100 (.agg #[x, y, z]) 0).run Try.prog w = .ok (.agg #[x, y]) w := by kernel_rfl
theorem field1 (x y z : Int) (w : World) : (Instr.field 100 (.agg #[.int .u64 x, .int .u64 y, .int .u64 z]) 1).run Try.prog w = .ok (.int .u64 z) w := by kernel_rfl

set_option maxHeartbeats 400000 in
theorem part_any (a part m : Int) (w : World) (a1 : -9223372036854775808 ≤ a) (a2 : a ≤ 9223372036854775807) (p1 : 0 ≤ part) (p2 : part ≤ 9223372036854775807) (hm : 1 ≤ m) (hm2 : m ≤ 9223372036854775807) :
    Calls Try.prog 51 #[.int .i64 a, .int .i64 part, .int .i64 m] w fun e w' => e = .returned (.tuple #[.int .i64 (tellV (a * part / m)), .int .i64 (tellE (a * part / m))]) ∧ Below w.heap.size w w' := by
  have HO := Lib.hid (part_ok a1 a2 p1 p2 hm)
  have hf := field0 (.int .u64 (hiW (a * part / m))) (.int .u64 (loW (a * part / m))) (.int .u64 (a * part % m))
  have d1 : decide (m < 1) = false := by simp; omega
  have d2 : decide (part < 0) = false := by simp; omega
  go_enter Try.func51, Try.ntmps51
  go_wp2_with fail
  refine (times_any a part m _ a1 a2 p1 p2 hm hm2).mono ?_
  rintro e w1 ⟨rfl, hb1⟩
  go_wp2_with fail
  refine (narrow_any (a * part / m) _ HO.out).mono ?_
  rintro e w2 ⟨rfl, hb2⟩
  go_wp2_with fail
  go_ret2
  have s1 := hb1.size
  exact ⟨rfl, hb1.trans (hb2.mono (by omega))⟩

set_option maxHeartbeats 400000 in
theorem part_no (a part m : Int) (w : World) (h : m < 1 ∨ part < 0) :
    Calls Try.prog 51 #[.int .i64 a, .int .i64 part, .int .i64 m] w fun e w' => e = .returned (.tuple #[.int .i64 0, .int .i64 1]) ∧ w = w' := by
  by_cases d1 : m < 1
  · have e1 : decide (m < 1) = true := by simp; omega
    go_enter Try.func51, Try.ntmps51
    go_wp2_with fail
    go_ret2
    exact ⟨rfl, rfl⟩
  · have e1 : decide (m < 1) = false := by simp; omega
    have e2 : decide (part < 0) = true := by simp; omega
    clear h
    go_enter Try.func51, Try.ntmps51
    go_wp2_with fail
    go_ret2
    exact ⟨rfl, rfl⟩

theorem wrap_i {n : Int} (h0 : -9223372036854775808 ≤ n) (h1 : n < 9223372036854775808) : IntKind.i64.wrap n = n := by
  rw [wrap_sgn, sgn]; omega

end Go.Proofs.Ytobdcogaphkogaa
