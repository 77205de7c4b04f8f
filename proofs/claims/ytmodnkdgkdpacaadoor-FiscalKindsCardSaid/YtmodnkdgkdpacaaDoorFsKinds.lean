/- The core of FiscalKinds. -/
import Derived.Test.YtmodnkdgkdpacaaDoorFsKw
namespace Go.Proofs.YtmodnkdgkdpacaaDoor
open Go.RowKit

set_option maxRecDepth 100000 in
set_option maxHeartbeats 2000000 in
theorem kd_none (K F p : Int) (w : World) (hL : Lg w) (H : Tells 7 #[.agg #[.int .i64 K, .int .i64 F]] (.int .i64 1)) :
    Calls Tryd.prog 5 #[.agg #[.int .i64 K, .int .i64 F], .int .i64 p] w fun e w' => e = .returned (.bool true) ∧ Below w.heap.size w w' := by
  have HL := Lib.hid hL
  have HH := Lib.hid H
  clear hL H
  go_enter Tryd.func5, Tryd.ntmps5
  go_wp2_with fail
  refine (fs_awake _ (HL.out.below (boxed _ _))).mono ?_
  rintro e w1 ⟨rfl, hb⟩
  have c0 : w1.cell? ⟨w.heap.size, 0, none⟩ = some (.int .i64 K) := kcell hb (by simp [go_sem])
  have c1 : w1.cell? ⟨w.heap.size, 1, none⟩ = some (.int .i64 F) := kcell hb (by simp [go_sem])
  have HB := Lib.hid (up2 (boxed _ _) hb)
  clear hb
  go_wp2_with fail
  refine (HH.out w1 (HL.out.below HB.out)).mono ?_
  rintro e w2 ⟨rfl, hb⟩
  have HB2 := Lib.hid (up2 HB.out hb)
  clear hb
  go_wp2_with fail
  go_ret
  exact ⟨rfl, HB2.out⟩

set_option maxRecDepth 100000 in
set_option maxHeartbeats 2000000 in
theorem kd_out (K F p : Int) (w : World) (hL : Lg w) (H : Tells 7 #[.agg #[.int .i64 K, .int .i64 F]] (.int .i64 0))
    (H1 : Tells 9 #[.agg #[.int .i64 K, .int .i64 F], .int .i64 p] (.tuple #[.int .i64 0, .int .i64 1])) :
    Calls Tryd.prog 5 #[.agg #[.int .i64 K, .int .i64 F], .int .i64 p] w fun e w' => e = .returned (.bool true) ∧ Below w.heap.size w w' := by
  have HL := Lib.hid hL
  have HH := Lib.hid H
  have HH1 := Lib.hid H1
  clear hL H H1
  go_enter Tryd.func5, Tryd.ntmps5
  go_wp2_with fail
  refine (fs_awake _ (HL.out.below (boxed _ _))).mono ?_
  rintro e w1 ⟨rfl, hb⟩
  have c0 : w1.cell? ⟨w.heap.size, 0, none⟩ = some (.int .i64 K) := kcell hb (by simp [go_sem])
  have c1 : w1.cell? ⟨w.heap.size, 1, none⟩ = some (.int .i64 F) := kcell hb (by simp [go_sem])
  have HB := Lib.hid (up2 (boxed _ _) hb)
  clear hb
  go_wp2_with fail
  refine (HH.out w1 (HL.out.below HB.out)).mono ?_
  rintro e w2 ⟨rfl, hb⟩
  have d0 := kcell hb c0
  have d1 := kcell hb c1
  have HB2 := Lib.hid (up2 HB.out hb)
  clear hb c0 c1
  go_wp2_with fail
  refine (HH1.out w2 (HL.out.below HB2.out)).mono ?_
  rintro e w3 ⟨rfl, hb⟩
  have HB3 := Lib.hid (up2 HB2.out hb)
  clear hb d0 d1
  go_wp2_with fail
  go_ret
  exact ⟨rfl, HB3.out⟩

set_option maxRecDepth 100000 in
set_option maxHeartbeats 4000000 in
theorem kd_months (F p A y m d : Int) (w : World) (hL : Lg w) (H : Tells 7 #[.agg #[.int .i64 0, .int .i64 F]] (.int .i64 0))
    (H1 : Tells 9 #[.agg #[.int .i64 0, .int .i64 F], .int .i64 p] (.tuple #[.int .i64 A, .int .i64 0]))
    (H2 : Tells 17 #[.int .i64 A] (.tuple #[.int .i64 y, .int .i64 m, .int .i64 1, .int .i64 0]))
    (H3 : Tells 18 #[.int .i64 F, .int .i64 p] (.tuple #[.int .i64 A, .int .i64 0]))
    (H4 : Tells 15 #[.agg #[.int .i64 0, .int .i64 F], .int .i64 p] (.int .i64 d))
    (H5 : Tells 19 #[.int .i64 y, .int .i64 m] (.int .i64 d)) :
    Calls Tryd.prog 5 #[.agg #[.int .i64 0, .int .i64 F], .int .i64 p] w fun e w' => e = .returned (.bool true) ∧ Below w.heap.size w w' := by
  have HL := Lib.hid hL
  have HH := Lib.hid H
  have HH1 := Lib.hid H1
  have HH2 := Lib.hid H2
  have HH3 := Lib.hid H3
  have HH4 := Lib.hid H4
  have HH5 := Lib.hid H5
  clear hL H H1 H2 H3 H4 H5
  go_enter Tryd.func5, Tryd.ntmps5
  go_wp2_with fail
  refine (fs_awake _ (HL.out.below (boxed _ _))).mono ?_
  rintro e w1 ⟨rfl, hb⟩
  have c0 : w1.cell? ⟨w.heap.size, 0, none⟩ = some (.int .i64 0) := kcell hb (by simp [go_sem])
  have c1 : w1.cell? ⟨w.heap.size, 1, none⟩ = some (.int .i64 F) := kcell hb (by simp [go_sem])
  have HB := Lib.hid (up2 (boxed _ _) hb)
  clear hb
  go_wp2_with fail
  refine (HH.out w1 (HL.out.below HB.out)).mono ?_
  rintro e w2 ⟨rfl, hb⟩
  have d0 := kcell hb c0
  have d1 := kcell hb c1
  have HB2 := Lib.hid (up2 HB.out hb)
  clear hb c0 c1
  go_wp2_with fail
  refine (HH1.out w2 (HL.out.below HB2.out)).mono ?_
  rintro e w3 ⟨rfl, hb⟩
  have c0 := kcell hb d0
  have c1 := kcell hb d1
  have HB3 := Lib.hid (up2 HB2.out hb)
  clear hb d0 d1
  go_wp2_with fail
  refine (HH2.out w3 (HL.out.below HB3.out)).mono ?_
  rintro e w4 ⟨rfl, hb⟩
  have d0 := kcell hb c0
  have d1 := kcell hb c1
  have HB4 := Lib.hid (up2 HB3.out hb)
  clear hb c0 c1
  go_wp2_with fail
  refine (HH3.out w4 (HL.out.below HB4.out)).mono ?_
  rintro e w5 ⟨rfl, hb⟩
  have c0 := kcell hb d0
  have c1 := kcell hb d1
  have HB5 := Lib.hid (up2 HB4.out hb)
  clear hb d0 d1
  go_wp2_with fail
  refine (HH4.out w5 (HL.out.below HB5.out)).mono ?_
  rintro e w6 ⟨rfl, hb⟩
  have HB6 := Lib.hid (up2 HB5.out hb)
  clear hb c0 c1
  go_wp2_with fail
  refine (HH5.out w6 (HL.out.below HB6.out)).mono ?_
  rintro e w7 ⟨rfl, hb⟩
  have HB7 := Lib.hid (up2 HB6.out hb)
  clear hb
  go_wp2_with fail
  go_ret
  exact ⟨rfl, HB7.out⟩

theorem wdays_three (p : Int) : wdays p = 28 ∨ wdays p = 35 ∨ wdays p = 42 := by unfold wdays; split <;> (try split) <;> simp

theorem kinds_any (K F p : Int) (w : World) (hL : Lg w) :
    Calls Tryd.prog 5 #[.agg #[.int .i64 K, .int .i64 F], .int .i64 p] w fun e w' => e = .returned (.bool true) ∧ Below w.heap.size w w' := by
  by_cases hC : ∃ g, Cal K F g
  · obtain ⟨g, h⟩ := hC
    by_cases hr : 0 ≤ p ∧ p < 240
    · obtain ⟨p0, p1⟩ := hr
      have C := check_yes h
      have A := first_yes h p0 p1
      have D := fdays_yes h p0 p1
      have bd := h.bd p0 (by omega)
      have fb := h.1.first
      have hh := h
      obtain ⟨hb, hlim⟩ := h
      rcases hb with ⟨rfl, f1, f2, rfl⟩ | ⟨rfl, a, a1, a2, rfl, rfl⟩
      · refine kd_weeks F p (F + wk p) (wdays p) w hL C A (fun i i0 i1 => ?_) ?_ (wdays_three p) ?_ (am_small (by have : 1 ≤ F + wk p := bd.1; omega) (by have : F + wk p ≤ 999669 := bd.2; omega)) (am_small (by omega) (by omega)) p0 p1
        · have := fdays_yes hh i0 i1
          rw [show (fun p => F + wk p) (i + 1) - (fun p => F + wk p) i = wdays i by show F + wk (i + 1) - (F + wk i) = _; rw [wk_next i0]; omega] at this
          exact this
        · rw [show (fun p => F + wk p) (p + 1) - (fun p => F + wk p) p = wdays p by show F + wk (p + 1) - (F + wk p) = _; rw [wk_next p0]; omega] at D
          exact D
        · have := wk_seven p
          have b1 : 1 ≤ F + wk p := bd.1
          unfold wday; rw [if_neg (by omega), if_neg (by omega)]
          simp only [beq_iff_eq]; omega
      · have e2 : mnum (a + 240) ≤ 999669 := hlim
        rw [mnum_in (by omega)] at e2
        have hm := mnum_may (k := a + p) (by omega) (by omega)
        refine kd_months (mnum a) p (mnum (a + p)) ((a + p) / 12 + 1) ((a + p) % 12 + 1) (mdim (a + p)) w hL C A ?_ ?_ ?_ ?_
        · exact fun W hW => date_is _ _ _ _ W hW hm
        · exact fun W hW => move_in a p W hW a1 a2 p0 (by omega)
        · rw [show (fun p => mnum (a + p)) (p + 1) - (fun p => mnum (a + p)) p = mdim (a + p) by
            show mnum (a + (p + 1)) - mnum (a + p) = _; rw [← Int.add_assoc, mnum_next (by omega)]; omega] at D
          exact D
        · exact fun W hW => same_below (long_any _ _ W hW (am_small (by omega) (by omega)))
    · exact kd_out K F p w hL (check_yes h) (first_no hr)
  · exact kd_none K F p w hL (check_no hC)
end Go.Proofs.YtmodnkdgkdpacaaDoor
