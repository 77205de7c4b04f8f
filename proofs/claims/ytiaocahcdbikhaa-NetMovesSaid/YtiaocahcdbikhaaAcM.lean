/- The ledger in memory; has, hasEntry, Open, Many, Moved. -/
import Derived.Test.YtiaocahcdbikhaaAcK
namespace Go.Proofs.Ytiaocahcdbikhaa
open Go.RowKit

def rowI (n : Nat) (g : Int → Int) : Array Value := ((List.range n).map fun (i : Nat) => Value.int .i64 (g (i : Int))).toArray
/-- an entry's cells -/
def entC : List En → List Value → List Value
  | e :: l, v :: vs => .int .i64 e.per :: v :: .bool e.tu :: entC l vs
  | _, _ => []
/-- all blocks of it are of this set -/
structure In9 (O : Nat → Prop) (p m : Nat) (ve : Value) (vs : List Value) (rows : List (Int × Int × Nat)) : Prop where
  p : O p
  m : O m
  ve : ∀ g, ve.ownBlock = some g → O g
  vs : ∀ v ∈ vs, ∀ g, v.ownBlock = some g → O g
  rows : ∀ x ∈ rows, O x.2.2
section
variable {w w' : World} {p m : Nat} {S : Ld} {f : Int → Int → Int → Int} {ve : Value} {vs : List Value} {rows : List (Int × Int × Nat)} {O : Nat → Prop}
/-- its four cells -/
def Lc4 (w : World) (p : Nat) (S : Ld) (ve : Value) (m : Nat) : Prop :=
  w.cell? ⟨p, 0, none⟩ = some (.int .i64 (S.n : Int)) ∧ w.cell? ⟨p, 1, none⟩ = some (.int .i64 (S.op : Int)) ∧ w.cell? ⟨p, 2, none⟩ = some ve ∧ w.cell? ⟨p, 3, none⟩ = some (.map (some m))
def hasB9 (S : Ld) (q : Int) : Bool := decide (0 ≤ q) && decide (q < (S.n : Int))
def entB (S : Ld) (i : Int) : Bool := decide (0 ≤ i) && decide (i < (S.L.length : Int))
end
end Go.Proofs.Ytiaocahcdbikhaa

namespace Go.Proofs.Ytiaocahcdbikhaa
open Go.RowKit

section
variable {w w' : World} {p m : Nat} {S : Ld} {O : Nat → Prop}
end
end Go.Proofs.Ytiaocahcdbikhaa
