/- What the listed table gives; the world that the witness starts in. -/
import Derived.Test.YtmodnkdgkdpacaaDoorRows
import Derived.Test.YtmodnkdgkdpacaaDoorCvA
import Derived.ProofKit
import Derived.LaidMore
import Derived.Lib.LaidTab
import Derived.Stop.Joined
namespace Go.Proofs.YtmodnkdgkdpacaaDoor
open Go.ChangeShapes Go.WideShapes Go.ChangeAt Go.RowKit

theorem own : ownKnob Tryd.prog.godebug = none := by kernel_rfl
theorem gLongs : Tryd.prog.globalNamed "quitrent/civil.longs" = some 0 := by kernel_rfl
theorem tLongs : (Tryd.prog.globals[0]?).map (·.type) = some 51 := by kernel_rfl
theorem cLongs : Tryd.prog.cellsOf 51 = 12 := by kernel_rfl
theorem cInt : Tryd.prog.cellsOf 3 = 1 := by kernel_rfl
/-- the row's list -/
abbrev laid1 : List (String × DataW Unit) := [("quitrent/civil.longs", Rows.laid_quitrent_civil_longs)]

theorem lg_of_laid {W : World} (h : laidMetH Tryd.prog laid1 W) : Lg W := by
  rw [MakeChecks.laidMetH_plain _ _ _ (by kernel_rfl)] at h
  have hT := Lib.tabIs_of_head (k := .i64) (zs := [31, 28, 31, 30, 31, 30, 31, 31, 30, 31, 30, 31]) gLongs tLongs Tryd.underlying51 Tryd.underlying3 cInt cLongs h
  intro i hi
  rw [hT.cell gLongs i hi]
  congr 2
  have : i = 0 ∨ i = 1 ∨ i = 2 ∨ i = 3 ∨ i = 4 ∨ i = 5 ∨ i = 6 ∨ i = 7 ∨ i = 8 ∨ i = 9 ∨ i = 10 ∨ i = 11 := by omega
  rcases this with rfl | rfl | rfl | rfl | rfl | rfl | rfl | rfl | rfl | rfl | rfl | rfl <;> decide

theorem door_met (os : Os) (args : Array Value) : laidMetH Tryd.prog laid1 ((World.doorLaid Tryd.prog 400 os).forCall (fun _ _ => 0) ⟨#[], args, []⟩).memory :=
  laidMetH_of_parts3 (fuel := 8) (laidMet_of_run' 8 (by kernel_rfl) (by kernel_rfl)) (by kernel_rfl) (by kernel_rfl)
end Go.Proofs.YtmodnkdgkdpacaaDoor
