/- Contracts: once, and the length of a number of 64 bits. -/
import Derived.Test.YtlplbgandehkcaaD
import Derived.Test.YtlplbgandehkcaaN
import Derived.Deep.QuietTactic
import Derived.BigQuiet
namespace Go.Proofs.Ytlplbgandehkcaa
open Go.RowKit

/-- a share of a number by a whole -/
def sh (x m : Int) : Value := .agg #[.int .u64 (hiW (x / m)), .int .u64 (loW (x / m)), .int .u64 (x % m)]

theorem Row3.drewN {W : World} {p : Nat} {x y z : Value} (h : Row3 W p x y z) (n : Nat) : Row3 (W.drewN n) p x y z := by
  unfold Row3 at *; simpa using h

theorem wrap_u {n : Int} (h0 : 0 ≤ n) (h1 : n < 18446744073709551616) : IntKind.u64.wrap n = n := by
  simp [IntKind.wrap, IntKind.bits, IntKind.signed]; omega

end Go.Proofs.Ytlplbgandehkcaa
