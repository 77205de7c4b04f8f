/- has, mayBe, Clone, the search behind a day. -/
import Derived.Test.YthogokflobnfpaaBoMem
import Derived.WalkKit
namespace Go.Proofs.Ythogokflobnfpaa
open Go.RowKit

/-- what the search finds -/
def FoundP (w : World) (R : List (Int × Int)) (d : Int) (e : Ending) (w' : World) : Prop := ∃ k : Nat, Pl R d k ∧ e = .returned (.int .i64 (k : Int)) ∧ ∃ q, w' = w.drewN q
/-- what behind finds -/
def BehR (w : World) (R : List (Int × Int)) (d : Int) (e : Ending) (w' : World) : Prop := ∃ k : Nat, Pl R d k ∧ e = .returned (.int .i64 (k : Int)) ∧ Below w.heap.size w w'
end Go.Proofs.Ythogokflobnfpaa
