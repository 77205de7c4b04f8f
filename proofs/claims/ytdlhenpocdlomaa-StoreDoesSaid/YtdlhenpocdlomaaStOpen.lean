/- Operations among the arguments: what is read of them. -/
import Derived.Test.YtdlhenpocdlomaaStDoes
import Derived.OpenShut
import Derived.ShutString
import Derived.ChangeOld
import Derived.ProofKit
import Derived.Deep.Slices
import Derived.Deep.Fields
namespace Go.Proofs.Ytdlhenpocdlomaa
open Go.ChangeShapes Go.WideShapes Go.ChangeAt Go.RowKit Go.Deep

theorem cells3 : Try.prog.cellsOf 3 = 1 := by kernel_rfl
theorem cells9 : Try.prog.cellsOf 9 = 1 := by kernel_rfl
theorem cells4 : Try.prog.cellsOf 4 = 1 := by kernel_rfl
theorem cells32 : Try.prog.cellsOf 32 = 6 := by kernel_rfl
section
variable {H : Type} {enc : TypeId × Value → H} {W : World} {base : Nat} {spare : Nat → Bool} {held : Bool}
theorem op_read {fuel : Nat} {cs : List Value} {y : DataW H × List MemPlace} (h : DataW.trod enc Try.prog W base spare held fuel 32 cs = some y) :
    ∃ o : OpD, cs = o.cells.toList ∧ o.n ≤ 9223372036854775807 := by
  obtain ⟨ys, n, _, _, hlen, hyl, hf⟩ := DataW.trod_struct Try.underlying32 h
  have h6 : cs.length = 6 := hlen.trans cells32
  match cs, h6 with
  | [c0, c1, c2, c3, c4, c5], _ =>
    match ys, hyl with
    | [y0, y1, y2, y3, y4, y5], _ =>
      have g0 : DataW.trod enc Try.prog W base spare held n 3 [c0] = some y0 := by simpa [cells3] using hf 0 _ rfl
      have g1 : DataW.trod enc Try.prog W base spare held n 3 [c1] = some y1 := by simpa [cells3] using hf 1 _ rfl
      have g2 : DataW.trod enc Try.prog W base spare held n 3 [c2] = some y2 := by simpa [cells3] using hf 2 _ rfl
      have g3 : DataW.trod enc Try.prog W base spare held n 3 [c3] = some y3 := by simpa [cells3] using hf 3 _ rfl
      have g4 : DataW.trod enc Try.prog W base spare held n 9 [c4] = some y4 := by simpa [cells9] using hf 4 _ rfl
      have g5 : DataW.trod enc Try.prog W base spare held n 4 [c5] = some y5 := by simpa [cells4] using hf 5 _ rfl
      obtain ⟨d, e0, _, _⟩ := DataW.trod_int Try.underlying3 g0
      obtain ⟨a, e1, _, _⟩ := DataW.trod_int Try.underlying3 g1
      obtain ⟨k, e2, _, wk⟩ := DataW.trod_int Try.underlying3 g2
      obtain ⟨t, e3, _, _⟩ := DataW.trod_int Try.underlying3 g3
      obtain ⟨x, e4, _, _⟩ := DataW.trod_string Try.underlying9 g4
      obtain ⟨f, e5, _⟩ := DataW.trod_bool Try.underlying4 g5
      simp at e0 e1 e2 e3 e4 e5
      subst e0 e1 e2 e3 e4 e5
      exact ⟨⟨d, a, k, t, x, f⟩, rfl, (bounds_i64 wk).2⟩

theorem add_at (b off : Nat) (k : Nat) : (⟨b, off, none⟩ : Addr).add k = ⟨b, off + k, none⟩ := by
  unfold Addr.add
  split
  · subst k; rfl
  · rfl
/-- a list of operations that came in -/
theorem ops_read {fuel : Nat} {a : Option Addr} {len cap : Nat} {y : DataW H × List MemPlace} (h : DataW.trod enc Try.prog W base spare held fuel 22 [.slice a len cap] = some y) :
    ∃ L : Nat → OpD, Ops W a len L ∧ len ≤ 9223372036854775807 := by
  rcases open_slice Try.underlying22 h with ⟨hcs, _⟩ | ⟨x, l, c, m, n, D, Pl, hcs, _, hl, hm, hmm, _, hi⟩
  · simp at hcs
    obtain ⟨rfl, rfl, rfl⟩ := hcs
    exact ⟨fun _ => ⟨0, 0, 0, 0, ByteArray.empty, false⟩, fun i hi => absurd hi (by omega), by omega⟩
  · simp at hcs
    obtain ⟨rfl, rfl, rfl⟩ := hcs
    have hlm : len ≤ m := by rw [hmm]; split <;> omega
    have key : ∀ i, i < len → ∃ o : OpD, (∃ b off, some x = some ⟨b, off, none⟩ ∧ Lay b (off + i * 6) o W) ∧ o.n ≤ 9223372036854775807 := by
      intro i hil
      obtain ⟨cs, hc, ht⟩ := hi i (by omega)
      obtain ⟨o, rfl, hn⟩ := op_read ht
      rw [cells32] at hc
      obtain ⟨_, _, hat⟩ := World.cells?_some hc
      refine ⟨o, ?_, hn⟩
      obtain ⟨b, off, sp⟩ := x
      have hs : sp = none := by
        have q := hat 0 (by omega)
        obtain ⟨cs0, hc0, ht0⟩ := hi 0 (by omega)
        rw [cells32] at hc0
        obtain ⟨_, _, hat0⟩ := World.cells?_some hc0
        obtain ⟨o0, rfl, _⟩ := op_read ht0
        have q0 := hat0 0 (by omega)
        simp [Addr.add, OpD.cells, opv] at q0
        cases sp with
        | none => rfl
        | some v =>
          exfalso
          unfold World.cell? at q0
          split at q0 <;> simp at q0
      subst hs
      refine ⟨b, off, rfl, ?_⟩
      have hj : ∀ j, j < 6 → W.cell? ⟨b, off + i * 6 + j, none⟩ = o.cells.toList[j]? := fun j hj => by
        have := hat j hj
        rwa [add_at, add_at] at this
      exact ⟨hj 0 (by omega), hj 1 (by omega), hj 2 (by omega), hj 3 (by omega), hj 4 (by omega), hj 5 (by omega)⟩
    refine ⟨fun i => if hil : i < len then (key i hil).choose else ⟨0, 0, 0, 0, ByteArray.empty, false⟩, fun i hil => ?_, by unfold maxLen at hm; omega⟩
    obtain ⟨⟨b, off, e, hL⟩, hn⟩ := (key i hil).choose_spec
    simp only [dif_pos hil]
    exact ⟨b, off, e, hL, hn⟩
end
end Go.Proofs.Ytdlhenpocdlomaa
