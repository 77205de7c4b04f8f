/- Arguments of the statements on tracks: what is read of them. -/
import Derived.Test.YtobdcogaphkogaaDnW
import Derived.Test.YtobdcogaphkogaaTrG
namespace Go.Proofs.Ytobdcogaphkogaa
open Go.ChangeShapes Go.WideShapes Go.ChangeAt Go.RowKit Go.Deep

theorem cOp15 : Try.prog.cellsOf 35 = 3 := by kernel_rfl
def o3G (x : Op3) : Prop := Am x.k ∧ Am x.dy ∧ Am x.n
section
variable {H : Type} {enc : TypeId × Value → H} {W : World} {base : Nat} {spare : Nat → Bool} {held : Bool}
set_option maxRecDepth 100000 in
theorem o3_read (fuel : Nat) (cs : List Value) (y : DataW H × List MemPlace) (h : DataW.trod enc Try.prog W base spare held fuel 35 cs = some y) : ∃ x : Op3, cs = o3C x ∧ o3G x := by
  obtain ⟨ys, n, _, _, hlen, hyl, hf⟩ := DataW.trod_struct Try.underlying35 h
  have h2 : cs.length = 3 := hlen.trans cOp15
  match cs, h2 with
  | [c0, c1, c2], _ =>
    match ys, hyl with
    | [y0, y1, y2], _ =>
      have g0 : DataW.trod enc Try.prog W base spare held n 3 [c0] = some y0 := by simpa [cInt] using hf 0 _ rfl
      have g1 : DataW.trod enc Try.prog W base spare held n 3 [c1] = some y1 := by simpa [cInt] using hf 1 _ rfl
      have g2 : DataW.trod enc Try.prog W base spare held n 2 [c2] = some y2 := by simpa [cI64] using hf 2 _ rfl
      obtain ⟨a, e0, _, w0⟩ := DataW.trod_int Try.underlying3 g0
      obtain ⟨b, e1, _, w1⟩ := DataW.trod_int Try.underlying3 g1
      obtain ⟨c, e2, _, w2⟩ := DataW.trod_int Try.underlying2 g2
      simp at e0 e1 e2
      subst e0 e1 e2
      exact ⟨⟨a, b, c⟩, rfl, bounds_i64 w0, bounds_i64 w1, bounds_i64 w2⟩
theorem o3s_read {fuel : Nat} {a : Option Addr} {len cap : Nat} {y : DataW H × List MemPlace} (h : DataW.trod enc Try.prog W base spare held fuel 25 [.slice a len cap] = some y) :
    ∃ l : List Op3, l.length = len ∧ O3A W a l ∧ (∀ x ∈ l, o3G x) ∧ (a = none → cap = 0) := rows_read Try.underlying25 cOp15 (by decide) o3_len o3_read h
end
end Go.Proofs.Ytobdcogaphkogaa
