/- Reverse. -/
import Derived.Test.YtiaocahcdbikhaaAcV
namespace Go.Proofs.Ytiaocahcdbikhaa
open Go.RowKit

def turned1 (S : Ld) (i : Nat) : Ld := { S with L := S.L.modify i turn }
section
variable {w w' : World} {p m : Nat} {S : Ld} {f : Int → Int → Int → Int} {ve : Value} {vs : List Value} {rows : List (Int × Int × Nat)} {O : Nat → Prop}
end
end Go.Proofs.Ytiaocahcdbikhaa

namespace Go.Proofs.Ytiaocahcdbikhaa
open Go.RowKit

section
variable {w w' : World} {p m : Nat} {S : Ld} {f : Int → Int → Int → Int} {ve : Value} {vs : List Value} {rows : List (Int × Int × Nat)} {O : Nat → Prop}
end
end Go.Proofs.Ytiaocahcdbikhaa

namespace Go.Proofs.Ytiaocahcdbikhaa
open Go.RowKit

section
variable {w w' : World} {p m : Nat} {S : Ld} {f : Int → Int → Int → Int} {ve : Value} {vs : List Value} {rows : List (Int × Int × Nat)} {O : Nat → Prop}
/-- blocks of a call's own -/
abbrev Own9 (w w' : World) : Nat → Prop := fun b => w.heap.size ≤ b ∧ b < w'.heap.size
/-- Entry -/
def EntR (w : World) (S : Ld) (i : Int) (e : Ending) (w' : World) : Prop :=
  ((entB S i = false ∧ e = .returned (.tuple #[.int .i64 0, .slice none 0 0, .int .i64 5])) ∨ ∃ x v, entB S i = true ∧ S.L[i.toNat]? = some x ∧ e = .returned (.tuple #[.int .i64 x.per, v, .int .i64 0]) ∧ w'.ownsRow w.heap.size 35 3 v x.ps.length (flat x.ps)) ∧ Below w.heap.size w w'
def TotR (w : World) (S : Ld) (a q : Int) (e : Ending) (w' : World) : Prop := e = .returned (.tuple #[.int .i64 (totV S a q), .int .i64 (totE S a q)]) ∧ Below w.heap.size w w'
end
end Go.Proofs.Ytiaocahcdbikhaa
