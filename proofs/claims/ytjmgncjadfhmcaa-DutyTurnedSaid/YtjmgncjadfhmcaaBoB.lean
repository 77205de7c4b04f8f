/- put, Set. -/
import Derived.Test.YtjmgncjadfhmcaaBoRun
namespace Go.Proofs.Ytjmgncjadfhmcaa
open Go.RowKit

/-- the two cells of what is put -/
def TwoC (y : Nat) (d n : Int) (w : World) : Prop := w.cell? ⟨y, 0, none⟩ = some (.int .i64 d) ∧ w.cell? ⟨y, 1, none⟩ = some (.int .i64 n)
theorem TwoC.up {y : Nat} {d n : Int} {w w' : World} (h : TwoC y d n w) (q : Below w.heap.size w w') : TwoC y d n w' := ⟨kcell q h.1, kcell q h.2⟩
end Go.Proofs.Ytjmgncjadfhmcaa
