/- What every walk of this seat's leans on: worlds, cells, bounds. -/
import Derived.Test.YtiaocahcdbikhaaProg
import Derived.WalkKit
import Derived.WalkSpells
import Derived.WalkLawsBesides
import Derived.Laws.Externs
import Derived.Deep.RegionHeld3
import Derived.Deep.QuietTactic
import Derived.Deep.DeepCutAuto
import Derived.BigQuiet
import Derived.BigRegion
import Derived.IntWalk
import Derived.Lib.Hide
import Derived.Outline
namespace Go.Proofs.Ytiaocahcdbikhaa
open Go.RowKit

/-- an integer of 64 bits -/
def Am (a : Int) : Prop := -9223372036854775808 ≤ a ∧ a ≤ 9223372036854775807
theorem kcell {W w1 : World} {p : Addr} {v : Value} (hb : Below W.heap.size W w1) (h : W.cell? p = some v) : w1.cell? p = some v :=
  (hb.cell (World.block_lt_of_cell? _ _ h)).trans h
theorem up2 {w W W' : World} (h : Below w.heap.size w W) (k : Below W.heap.size W W') : Below w.heap.size w W' := h.trans (k.mono h.size)
theorem boxed (w : World) (o : Obj) : Below w.heap.size w (w.alloc o) := (Below.refl _ _).alloc (Nat.le_refl _) _
theorem quiet_left {P : Program} {f : FuncId} {args : Array Value} {w : World} {n : Nat} {v : Value}
    (h : Calls P f args (w.drewN n) fun e w' => e = .returned v ∧ w.drewN n = w') : Calls P f args (w.drewN n) fun e w'' => e = .returned v ∧ ∃ m, w'' = w.drewN m :=
  h.mono fun _ _ ⟨he, hm⟩ => ⟨he, n, hm.symm⟩
/-- a store leaves other cells, and marks, as they were -/
theorem cset {W : World} {b o c k : Nat} {x v : Value} (h : W.cell? ⟨c, k, none⟩ = some v) (e : c ≠ b ∨ k ≠ o) : (W.setCell ⟨b, o, none⟩ x).cell? ⟨c, k, none⟩ = some v := by
  rw [World.cell?_setCell_other _ _ _ _ (by intro q; injection q; omega)]; exact h
end Go.Proofs.Ytiaocahcdbikhaa

namespace Go.Proofs.Ytiaocahcdbikhaa

/-- the upper and the lower half of a whole number's 128 bits -/
def hiW (v : Int) : Int := v / 18446744073709551616 % 18446744073709551616
def loW (v : Int) : Int := v % 18446744073709551616
/-- sum and carry, difference and borrow of 64 bits -/
def lo3 (x y c : Int) : Int := (x + y + c) % 18446744073709551616
def hi3 (x y c : Int) : Int := (x + y + c) / 18446744073709551616
def lo2 (x y c : Int) : Int := (x + 18446744073709551616 - y - c) % 18446744073709551616
def hi2 (x y c : Int) : Int := if x < y + c then 1 else 0
def U (x : Int) : Prop := 0 ≤ x ∧ x < 18446744073709551616

theorem U_hi (v : Int) : U (hiW v) := by unfold U hiW; omega
theorem U_lo (v : Int) : U (loW v) := by unfold U loW; omega
theorem plus_lo (a b : Int) : lo3 (loW a) (loW b) 0 = loW (a + b) := by unfold lo3 loW; omega
theorem plus_hi (a b : Int) : lo3 (hiW a) (hiW b) (hi3 (loW a) (loW b) 0) = hiW (a + b) := by unfold lo3 hi3 loW hiW; omega
theorem less_lo (a b : Int) : lo2 (loW a) (loW b) 0 = loW (a - b) := by unfold lo2 loW; omega
theorem less_hi (a b : Int) : lo2 (hiW a) (hiW b) (hi2 (loW a) (loW b) 0) = hiW (a - b) := by
  unfold lo2 hi2 loW hiW; split <;> omega
theorem hi3_le (x y : Int) (hx : U x) (hy : U y) : 0 ≤ hi3 x y 0 ∧ hi3 x y 0 ≤ 1 := by unfold U at hx hy; unfold hi3; omega
theorem hi2_le (x y : Int) : 0 ≤ hi2 x y 0 ∧ hi2 x y 0 ≤ 1 := by unfold hi2; split <;> omega
/-- the number of 64 bits that a lower half is -/
def sgn (l : Int) : Int := (l + 9223372036854775808) % 18446744073709551616 - 9223372036854775808
theorem sgn_bd (l : Int) : -9223372036854775808 ≤ sgn l ∧ sgn l ≤ 9223372036854775807 := by unfold sgn; omega
theorem sgn_fit (v : Int) (h1 : -9223372036854775808 ≤ v) (h2 : v ≤ 9223372036854775807) : sgn (loW v) = v := by unfold sgn loW; omega
theorem hi_sgn (v : Int) (h : v < -9223372036854775808 ∨ 9223372036854775807 < v) (h1 : -170141183460469231731687303715884105728 ≤ v) (h2 : v < 170141183460469231731687303715884105728) :
    hiW (sgn (loW v)) ≠ hiW v := by unfold sgn loW hiW; omega
end Go.Proofs.Ytiaocahcdbikhaa
