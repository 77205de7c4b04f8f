/- What every walk of this seat's leans on: worlds, cells, bounds. -/
import Derived.Test.YtobdcogaphkogaaProg
import Derived.WalkKit
import Derived.WalkSpells
import Derived.WalkLawsBesides
import Derived.Laws.Externs
import Derived.Deep.RegionHeld3
import Derived.Deep.QuietTactic
import Derived.Deep.DeepCutAuto
import Derived.BigQuiet
import Derived.BigRegion
import Derived.IntWalk
import Derived.Lib.Hide
import Derived.Outline
namespace Go.Proofs.Ytobdcogaphkogaa
open Go.RowKit

/-- an integer of 64 bits -/
def Am (a : Int) : Prop := -9223372036854775808 ≤ a ∧ a ≤ 9223372036854775807
theorem am_small {a : Int} (h0 : -1000000 ≤ a) (h1 : a ≤ 1000000) : Am a := by unfold Am; omega

theorem kcell {W w1 : World} {p : Addr} {v : Value} (hb : Below W.heap.size W w1) (h : W.cell? p = some v) : w1.cell? p = some v :=
  (hb.cell (World.block_lt_of_cell? _ _ h)).trans h
theorem up2 {w W W' : World} (h : Below w.heap.size w W) (k : Below W.heap.size W W') : Below w.heap.size w W' := h.trans (k.mono h.size)
theorem boxed (w : World) (o : Obj) : Below w.heap.size w (w.alloc o) := (Below.refl _ _).alloc (Nat.le_refl _) _
theorem blw {B : Nat} {x y : World} (h : Below B x y) (n : Nat) : Below B x (y.drewN n) := ⟨h.os, h.tape, h.output, h.size, h.block⟩
theorem drewN_two (w : World) (a b : Nat) : (w.drewN a).drewN b = w.drewN (a + b) := by simp [World.drewN, Nat.add_assoc]
theorem quiet_left {P : Program} {f : FuncId} {args : Array Value} {w : World} {n : Nat} {v : Value}
    (h : Calls P f args (w.drewN n) fun e w' => e = .returned v ∧ w.drewN n = w') : Calls P f args (w.drewN n) fun e w'' => e = .returned v ∧ ∃ m, w'' = w.drewN m :=
  h.mono fun _ _ ⟨he, hm⟩ => ⟨he, n, hm.symm⟩
theorem same_below {P : Program} {f : FuncId} {xs : Array Value} {w : World} {x : Ending} (h : Calls P f xs w fun e w' => e = x ∧ w = w') : Calls P f xs w fun e w' => e = x ∧ Below w.heap.size w w' :=
  h.mono fun _ _ ⟨a, b⟩ => ⟨a, by rw [← b]; exact Below.refl _ _⟩
/-- a store leaves other cells, and marks, as they were -/
theorem cset {W : World} {b o c k : Nat} {x v : Value} (h : W.cell? ⟨c, k, none⟩ = some v) (e : c ≠ b ∨ k ≠ o) : (W.setCell ⟨b, o, none⟩ x).cell? ⟨c, k, none⟩ = some v := by
  rw [World.cell?_setCell_other _ _ _ _ (by intro q; injection q; omega)]; exact h
theorem csame {W : World} {b o : Nat} {x v : Value} (h : W.cell? ⟨b, o, none⟩ = some v) : (W.setCell ⟨b, o, none⟩ x).cell? ⟨b, o, none⟩ = some x :=
  World.cell?_setCell_same' _ _ _ (by rw [h]; rfl)
theorem fset {W : World} {b o c k : Nat} {x : Value} {f : Bool} (h : W.frozen? ⟨c, k, none⟩ = f) : (W.setCell ⟨b, o, none⟩ x).frozen? ⟨c, k, none⟩ = f := by
  rw [World.frozen?_setCell]; exact h
end Go.Proofs.Ytobdcogaphkogaa
