/- Contracts: Part and Rest. -/
import Derived.Test.YtlplbgandehkcaaG
namespace Go.Proofs.Ytlplbgandehkcaa
open Go.RowKit

theorem mul_bd {a p : Int} (a1 : -9223372036854775808 ≤ a) (a2 : a ≤ 9223372036854775807) (p1 : 0 ≤ p) (p2 : p ≤ 9223372036854775807) :
    -85070591730234615865843651857942052864 ≤ a * p ∧ a * p ≤ 85070591730234615865843651857942052864 := by
  constructor
  · have h1 : -9223372036854775808 * p ≤ a * p := Int.mul_le_mul_of_nonneg_right a1 p1
    omega
  · have h1 : a * p ≤ 9223372036854775807 * p := Int.mul_le_mul_of_nonneg_right a2 p1
    omega
theorem part_ok {a p m : Int} (a1 : -9223372036854775808 ≤ a) (a2 : a ≤ 9223372036854775807) (p1 : 0 ≤ p) (p2 : p ≤ 9223372036854775807) (hm : 1 ≤ m) : wideOk (a * p / m) := by
  have h := mul_bd a1 a2 p1 p2
  have d := div_bd (x := a * p) (B := 85070591730234615865843651857942052864) hm (by omega) h.1 h.2
  unfold wideOk; omega

theorem wrap_i {n : Int} (h0 : -9223372036854775808 ≤ n) (h1 : n < 9223372036854775808) : IntKind.i64.wrap n = n := by
  rw [wrap_sgn, sgn]; omega

end Go.Proofs.Ytlplbgandehkcaa
