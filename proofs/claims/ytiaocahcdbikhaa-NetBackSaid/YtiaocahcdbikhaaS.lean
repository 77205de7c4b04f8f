/- Contracts: shares added, the walk. -/
import Derived.Deep.QuietTactic
import Derived.BigQuiet
import Derived.WalkMore
import Derived.ScopeJumps
import Derived.Test.YtiaocahcdbikhaaC
namespace Go.Proofs.Ytiaocahcdbikhaa
open Go.RowKit

end Go.Proofs.Ytiaocahcdbikhaa

namespace Go.Proofs.Ytiaocahcdbikhaa

end Go.Proofs.Ytiaocahcdbikhaa

namespace Go.Proofs.Ytiaocahcdbikhaa
open Go.RowKit

/-- a share of a number by a whole -/
def sh (x m : Int) : Value := .agg #[.int .u64 (hiW (x / m)), .int .u64 (loW (x / m)), .int .u64 (x % m)]

theorem Row3.drewN {W : World} {p : Nat} {x y z : Value} (h : Row3 W p x y z) (n : Nat) : Row3 (W.drewN n) p x y z := by
  unfold Row3 at *; simpa using h

end Go.Proofs.Ytiaocahcdbikhaa

namespace Go.Proofs.Ytiaocahcdbikhaa
open Go.RowKit

def lenList : List UInt8 := (([0, 1, 2, 2, 3, 3, 3, 3, 4, 4, 4, 4, 4, 4, 4, 4, 5, 5, 5, 5, 5, 5, 5, 5, 5, 5, 5, 5, 5, 5, 5, 5] ++ List.replicate 32 6) ++ List.replicate 64 7 ++ List.replicate 128 8)
def lenTab : ByteArray := ⟨lenList.toArray⟩

def LenOk (x : Int) (w : World) (e : Ending) (w' : World) : Prop := ∃ k : Nat, k ≤ 64 ∧ x < 2 ^ k ∧ e = .returned (.int .i64 k) ∧ w = w'

end Go.Proofs.Ytiaocahcdbikhaa

namespace Go.Proofs.Ytiaocahcdbikhaa

/-- As Q; by a goto to label l: J; to label m: K; by any other goto: no way out. -/
def jump2 (l : Nat) (J : Act → World → Prop) (m : Nat) (K : Act → World → Prop) (Q : Exit → Act → World → Prop) : Exit → Act → World → Prop
  | .goto i, a, w => (i = l ∧ J a w) ∨ (i = m ∧ K a w)
  | e, a, w => Q e a w

section
variable {P : Program} {a : Act} {w : World} {Q : Exit → Act → World → Prop}

end
end Go.Proofs.Ytiaocahcdbikhaa
