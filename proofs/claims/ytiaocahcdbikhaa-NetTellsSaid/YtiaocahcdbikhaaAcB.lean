/- Keys that are places; postings in memory; known, has, hasEntry, Open, Many. -/
import Derived.SizedLaws
import Derived.Test.YtiaocahcdbikhaaAcMap
import Derived.Test.YtiaocahcdbikhaaAcMath
import Derived.Test.YtiaocahcdbikhaaB
namespace Go.Proofs.Ytiaocahcdbikhaa
open Go.RowKit
open Go.Maps (Keyed)

/-- a place -/
def plV (a c : Int) : Value := .agg #[.int .i64 a, .int .i64 c]
/-- cells of postings -/
def Po.cells (x : Po) : List Value := [.int .i64 x.a, .int .i64 x.c, .int .i64 x.m]
def flat (ps : List Po) : List Value := ps.flatMap Po.cells
/-- postings that lie from an address on -/
def PsA (w : World) (a : Option Addr) (ps : List Po) : Prop :=
  ps = [] ∨ ∃ b o, a = some ⟨b, o, none⟩ ∧ ∀ i x, ps[i]? = some x → w.cell? ⟨b, o + i * 3, none⟩ = some (.int .i64 x.a) ∧ w.cell? ⟨b, o + i * 3 + 1, none⟩ = some (.int .i64 x.c) ∧ w.cell? ⟨b, o + i * 3 + 2, none⟩ = some (.int .i64 x.m)
theorem PsA.up {w w' : World} {a : Option Addr} {ps : List Po} (h : PsA w a ps) (q : Below w.heap.size w w') : PsA w' a ps := by
  rcases h with h | ⟨b, o, e, h⟩
  · exact .inl h
  · exact .inr ⟨b, o, e, fun i x hx => ⟨kcell q (h i x hx).1, kcell q (h i x hx).2.1, kcell q (h i x hx).2.2⟩⟩
theorem PsA.drew {w : World} {a : Option Addr} {ps : List Po} (h : PsA w a ps) : PsA w.drew a ps := h
theorem PsA.drewN {w : World} {a : Option Addr} {ps : List Po} (h : PsA w a ps) (n : Nat) : PsA (w.drewN n) a ps := by
  rcases h with h | ⟨b, o, e, h⟩
  · exact .inl h
  · exact .inr ⟨b, o, e, fun i x hx => by simpa using h i x hx⟩

end Go.Proofs.Ytiaocahcdbikhaa

namespace Go.Proofs.Ytiaocahcdbikhaa
open Go.RowKit

end Go.Proofs.Ytiaocahcdbikhaa
