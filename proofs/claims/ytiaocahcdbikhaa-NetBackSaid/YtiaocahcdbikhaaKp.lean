/- Which blocks have turned. -/
import Derived.Laws.AppendOwn
import Derived.Test.YtiaocahcdbikhaaBk
namespace Go.Proofs.Ytiaocahcdbikhaa
open Go.RowKit

/-- of the blocks that were there, none but these has turned -/
structure Kp (O : Nat → Prop) (w w' : World) : Prop where
  os : w'.os = w.os
  tape : w'.tape = w.tape
  output : w'.output = w.output
  size : w.heap.size ≤ w'.heap.size
  block : ∀ b, b < w.heap.size → ¬ O b → w'.heap[b]? = w.heap[b]?
theorem Kp.of {O : Nat → Prop} {w w' : World} (h : Below w.heap.size w w') : Kp O w w' := ⟨h.os, h.tape, h.output, h.size, fun b hb _ => h.block b hb⟩
theorem Kp.refl (O : Nat → Prop) (w : World) : Kp O w w := ⟨rfl, rfl, rfl, Nat.le_refl _, fun _ _ _ => rfl⟩
theorem Kp.trans {O O' : Nat → Prop} {w w1 w2 : World} (h : Kp O w w1) (k : Kp O' w1 w2) (hs : ∀ b, O' b → O b ∨ w.heap.size ≤ b) : Kp O w w2 :=
  ⟨k.os.trans h.os, k.tape.trans h.tape, k.output.trans h.output, Nat.le_trans h.size k.size, fun b hb hn =>
    (k.block b (Nat.lt_of_lt_of_le hb h.size) (fun q => (hs b q).elim hn (fun z => by omega))).trans (h.block b hb hn)⟩
theorem Kp.below {O : Nat → Prop} {w w' : World} {B : Nat} (h : Kp O w w') (hB : B ≤ w.heap.size) (hO : ∀ b, O b → B ≤ b) : Below B w w' :=
  ⟨h.os, h.tape, h.output, h.size, fun b hb => h.block b (by omega) (fun q => by have := hO b q; omega)⟩
theorem Kp.grown {O : Nat → Prop} {w w' : World} {row : Option Nat} (h : w.grownBy w' row) (hr : ∀ j, row = some j → O j ∨ w.heap.size ≤ j) : Kp O w w' :=
  ⟨h.os, h.tape, h.output, h.size, fun b hb hn => h.block b hb (fun e => (hr b e.symm).elim hn (fun z => by omega))⟩
theorem Kp.set {O : Nat → Prop} (w : World) (a : Addr) (v : Value) (hO : O a.block) : Kp O w (w.setCell a v) :=
  ⟨rfl, rfl, rfl, by simp [World.setCell], fun b _ hn => Below.heap_setCell w a v b (fun e => hn (e ▸ hO))⟩
/-- these, and all new ones -/
abbrev Nw (O : Nat → Prop) (w w' : World) : Nat → Prop := fun b => O b ∨ (w.heap.size ≤ b ∧ b < w'.heap.size)
theorem Kp.has {O : Nat → Prop} {w w' : World} (h : Kp O w w') {g T : Nat} {cs : Array Value} (hh : Has w g T cs) (hn : ¬ O g) : Has w' g T cs :=
  (h.block g hh.lt hn).trans hh
end Go.Proofs.Ytiaocahcdbikhaa
