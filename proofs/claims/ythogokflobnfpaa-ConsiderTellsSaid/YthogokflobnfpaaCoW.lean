/- Arguments of the price's statements: what is read of them. -/
import Derived.Test.YthogokflobnfpaaBoW
import Derived.Test.YthogokflobnfpaaCoMem
namespace Go.Proofs.Ythogokflobnfpaa
open Go.ChangeShapes Go.WideShapes Go.ChangeAt Go.RowKit Go.Deep

theorem cMaybe : Try.prog.cellsOf 26 = 2 := by kernel_rfl
section
variable {H : Type} {enc : TypeId × Value → H} {W : World} {base : Nat} {spare : Nat → Bool} {held : Bool}
set_option maxRecDepth 100000 in
theorem mb_read (fuel : Nat) (cs : List Value) (y : DataW H × List MemPlace) (h : DataW.trod enc Try.prog W base spare held fuel 26 cs = some y) : ∃ x : Mb, cs = x.cells ∧ mbG x := by
  obtain ⟨ys, n, _, _, hlen, hyl, hf⟩ := DataW.trod_struct Try.underlying26 h
  have h2 : cs.length = 2 := hlen.trans cMaybe
  match cs, h2 with
  | [c0, c1], _ =>
    match ys, hyl with
    | [y0, y1], _ =>
      have g0 : DataW.trod enc Try.prog W base spare held n 2 [c0] = some y0 := by simpa [cI64] using hf 0 _ rfl
      have g1 : DataW.trod enc Try.prog W base spare held n 3 [c1] = some y1 := by simpa [cInt] using hf 1 _ rfl
      obtain ⟨a, e0, _, w0⟩ := DataW.trod_int Try.underlying2 g0
      obtain ⟨b, e1, _, w1⟩ := DataW.trod_int Try.underlying3 g1
      simp at e0 e1
      subst e0 e1
      exact ⟨⟨a, b⟩, rfl, bounds_i64 w0, bounds_i64 w1⟩
theorem mbs_read {fuel : Nat} {a : Option Addr} {len cap : Nat} {y : DataW H × List MemPlace} (h : DataW.trod enc Try.prog W base spare held fuel 22 [.slice a len cap] = some y) :
    ∃ l : List Mb, l.length = len ∧ MbA W a l ∧ (∀ x ∈ l, mbG x) ∧ (a = none → cap = 0) := rows_read Try.underlying22 cMaybe (by decide) mb_len mb_read h
end
end Go.Proofs.Ythogokflobnfpaa
