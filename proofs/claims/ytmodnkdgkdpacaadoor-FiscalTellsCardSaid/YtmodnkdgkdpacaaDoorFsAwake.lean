/- awake. -/
import Derived.Test.YtmodnkdgkdpacaaDoorFsC
namespace Go.Proofs.YtmodnkdgkdpacaaDoor
open Go.RowKit

theorem cal_one : Cal 1 1 (fun p => 1 + wk p) := ⟨.inl ⟨rfl, by omega, by omega, rfl⟩, by decide⟩
theorem cal_two : Cal 0 32 (fun p => mnum (1 + p)) := ⟨.inr ⟨rfl, 1, by omega, by omega, by decide, rfl⟩, by decide⟩
theorem no_cal : ¬ ∃ g, Cal 0 2 g := by
  rintro ⟨g, h, _⟩
  rcases h with ⟨h, _⟩ | ⟨_, a, a1, a2, h, _⟩
  · omega
  · by_cases q : a = 0
    · subst q; revert h; decide
    · have := mnum_le (a := 1) (b := a) (by omega) (by omega)
      rw [show mnum 1 = 32 by decide] at this; omega

set_option maxRecDepth 100000 in
set_option maxHeartbeats 2000000 in
theorem fs_awake (w : World) (hL : Lg w) : Calls Tryd.prog 6 #[] w fun e w' => e = .returned (.bool true) ∧ Below w.heap.size w w' := by
  have D1 : Hid (Tells 9 #[.agg #[.int .i64 1, .int .i64 1], .int .i64 2] (.tuple #[.int .i64 57, .int .i64 0])) := Lib.hid (first_yes cal_one (p := 2) (by omega) (by omega))
  have D2 : Hid (Tells 11 #[.agg #[.int .i64 1, .int .i64 1], .int .i64 2] (.tuple #[.int .i64 91, .int .i64 0])) := Lib.hid (last_yes cal_one (p := 2) (by omega) (by omega))
  have D3 : Hid (Tells 13 #[.agg #[.int .i64 1, .int .i64 1], .int .i64 91] (.tuple #[.int .i64 2, .int .i64 0])) := Lib.hid (of_yes cal_one (k := 2) (by omega) (by omega) (by decide) (by decide))
  have D4 : Hid (Tells 13 #[.agg #[.int .i64 1, .int .i64 1], .int .i64 0] (.tuple #[.int .i64 0, .int .i64 1])) := Lib.hid (of_before cal_one (by omega))
  have D5 : Hid (Tells 7 #[.agg #[.int .i64 1, .int .i64 1]] (.int .i64 0)) := Lib.hid (check_yes cal_one)
  have D6 : Hid (Tells 7 #[.agg #[.int .i64 0, .int .i64 2]] (.int .i64 1)) := Lib.hid (check_no no_cal)
  have D7 : Hid (Tells 15 #[.agg #[.int .i64 0, .int .i64 32], .int .i64 0] (.int .i64 28)) := Lib.hid (fdays_yes cal_two (p := 0) (by omega) (by omega))
  have D8 : Hid (Tells 15 #[.agg #[.int .i64 0, .int .i64 32], .int .i64 240] (.int .i64 0)) := Lib.hid (fdays_no (by omega))
  have HL := Lib.hid hL
  clear hL
  go_enter Tryd.func6, Tryd.ntmps6
  go_wp2_with fail
  refine (D1.out _ (HL.out.below (boxed _ _))).mono ?_
  rintro e w1 ⟨rfl, hb⟩
  have c0 : w1.cell? ⟨w.heap.size, 0, none⟩ = some (.int .i64 1) := kcell hb (by simp [go_sem])
  have c1 : w1.cell? ⟨w.heap.size, 1, none⟩ = some (.int .i64 1) := kcell hb (by simp [go_sem])
  have HB1 := Lib.hid (up2 (boxed _ _) hb)
  clear hb
  go_wp2_with fail
  refine (D2.out w1 (HL.out.below HB1.out)).mono ?_
  rintro e w2 ⟨rfl, hb⟩
  have d0 := kcell hb c0
  have d1 := kcell hb c1
  have HB2 := Lib.hid (up2 HB1.out hb)
  clear hb c0 c1
  have c0 := d0
  have c1 := d1
  clear d0 d1
  go_wp2_with fail
  refine (D3.out w2 (HL.out.below HB2.out)).mono ?_
  rintro e w3 ⟨rfl, hb⟩
  have d0 := kcell hb c0
  have d1 := kcell hb c1
  have HB3 := Lib.hid (up2 HB2.out hb)
  clear hb c0 c1
  have c0 := d0
  have c1 := d1
  clear d0 d1
  go_wp2_with fail
  refine (D4.out w3 (HL.out.below HB3.out)).mono ?_
  rintro e w4 ⟨rfl, hb⟩
  have hz : w.heap.size < w4.heap.size := World.block_lt_of_cell? _ _ (kcell hb c0)
  have d0 := kcell hb c0
  have d1 := kcell hb c1
  have HB4 := Lib.hid (up2 HB3.out hb)
  clear hb c0 c1
  have c0 := d0
  have c1 := d1
  clear d0 d1
  go_wp2_with fail
  have HB5 := Lib.hid (HB4.out.alloc HB4.out.size (.cells #[.int .i64 0, .int .i64 32] 23))
  refine (D5.out _ (HL.out.below HB5.out)).mono ?_
  rintro e w6 ⟨rfl, hb⟩
  have e0 : w6.cell? ⟨w4.heap.size, 0, none⟩ = some (.int .i64 0) := kcell hb (by simp [go_sem])
  have e1 : w6.cell? ⟨w4.heap.size, 1, none⟩ = some (.int .i64 32) := kcell hb (by simp [go_sem])
  have HB6 := Lib.hid (up2 HB5.out hb)
  clear hb c0 c1
  go_wp2_with fail
  refine (D6.out w6 (HL.out.below HB6.out)).mono ?_
  rintro e w7 ⟨rfl, hb⟩
  have f0 := kcell hb e0
  have f1 := kcell hb e1
  have HB7 := Lib.hid (up2 HB6.out hb)
  clear hb e0 e1
  go_wp2_with fail
  refine (D7.out w7 (HL.out.below HB7.out)).mono ?_
  rintro e w8 ⟨rfl, hb⟩
  have e0 := kcell hb f0
  have e1 := kcell hb f1
  have HB8 := Lib.hid (up2 HB7.out hb)
  clear hb f0 f1
  go_wp2_with fail
  refine (D8.out w8 (HL.out.below HB8.out)).mono ?_
  rintro e w9 ⟨rfl, hb⟩
  have HB9 := Lib.hid (up2 HB8.out hb)
  clear hb e0 e1
  go_wp2_with fail
  go_ret
  exact ⟨rfl, HB9.out⟩
end Go.Proofs.YtmodnkdgkdpacaaDoor
