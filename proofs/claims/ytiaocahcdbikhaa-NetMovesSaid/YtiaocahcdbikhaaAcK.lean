/- even: are postings together 0, those of each contract? -/
import Derived.Test.YtiaocahcdbikhaaAcH
namespace Go.Proofs.Ytiaocahcdbikhaa
open Go.RowKit

def ekI (c : Int) : Value := .int .i64 c
abbrev kC (x : Po) : Int := x.c
/-- the two cells that a round reads -/
def Two (X : Nat) (c m : Int) (w : World) : Prop := w.cell? ⟨X, 1, none⟩ = some (.int .i64 c) ∧ w.cell? ⟨X, 2, none⟩ = some (.int .i64 m)
theorem Two.keep {X : Nat} {c m : Int} {w w' : World} {row : Option Nat} (h : Two X c m w) (g : w.grownBy w' row) (hn : some X ≠ row) : Two X c m w' :=
  ⟨g.cell h.1 hn, g.cell h.2 hn⟩
/-- groups of the first ones, in a world that goes on from another one -/
structure Ev (w0 w : World) (ps : List Po) (G : List (Int × Value × List Int)) : Prop where
  gr : Gr ekI 3 w w0.heap.size G
  ok : GrOk kC ps G
  bel : Below w0.heap.size w0 w
theorem Ev.lt {w0 w : World} {ps : List Po} {G : List (Int × Value × List Int)} (h : Ev w0 w ps G) : w0.heap.size < w.heap.size := h.gr.lt

end Go.Proofs.Ytiaocahcdbikhaa

namespace Go.Proofs.Ytiaocahcdbikhaa
open Go.RowKit

def ekP (q : Int × Int) : Value := plV q.1 q.2
end Go.Proofs.Ytiaocahcdbikhaa

namespace Go.Proofs.Ytiaocahcdbikhaa
open Go.RowKit

end Go.Proofs.Ytiaocahcdbikhaa
