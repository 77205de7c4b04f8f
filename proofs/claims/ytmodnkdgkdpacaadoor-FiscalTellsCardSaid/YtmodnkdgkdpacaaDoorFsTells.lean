/- The core of FiscalTells. -/
import Derived.Test.YtmodnkdgkdpacaaDoorFsR
import Derived.Test.YtmodnkdgkdpacaaDoorFsAwake
namespace Go.Proofs.YtmodnkdgkdpacaaDoor
open Go.RowKit

theorem Tells.at {f : FuncId} {args : Array Value} {v : Value} (h : Tells f args v) (W : World) (hL : Lg W) : Calls Tryd.prog f args W fun e w' => e = .returned v ∧ Below W.heap.size W w' := h W hL

set_option maxRecDepth 100000 in
set_option maxHeartbeats 8000000 in
theorem tl_none (K F p day : Int) (w : World) (hL : Lg w)
    (C7 : Tells 7 #[.agg #[.int .i64 K, .int .i64 F]] (.int .i64 1)) (C8 : Tells 8 #[.agg #[.int .i64 K, .int .i64 F]] (.int .i64 1)) :
    Calls Tryd.prog 3 #[.agg #[.int .i64 K, .int .i64 F], .int .i64 p, .int .i64 day] w fun e w' => e = .returned (.bool true) ∧ Below w.heap.size w w' := by
  have HL := Lib.hid hL
  have HC7 := Lib.hid C7
  have HC8 := Lib.hid C8
  clear hL C7 C8
  go_enter Tryd.func3, Tryd.ntmps3
  go_wp2_with fail
  refine (fs_awake _ (HL.out.below (boxed _ _))).mono ?_
  rintro e w1 ⟨rfl, hb⟩
  have c0 : w1.cell? ⟨w.heap.size, 0, none⟩ = some (.int .i64 K) := kcell hb (by simp [go_sem])
  have c1 : w1.cell? ⟨w.heap.size, 1, none⟩ = some (.int .i64 F) := kcell hb (by simp [go_sem])
  have hz : w.heap.size < w1.heap.size := World.block_lt_of_cell? _ _ c0
  have HB1 := Lib.hid (up2 (boxed _ _) hb)
  clear hb
  go_wp2_with fail
  obtain ⟨W0, hW0⟩ : ∃ W0, W0 = w1.alloc (.cells #[.int .i64 K, .int .i64 F] 25) := ⟨_, rfl⟩
  have e0 : W0.cell? ⟨w.heap.size, 0, none⟩ = some (.int .i64 K) := by rw [hW0]; exact kcell (boxed _ _) c0
  have e1 : W0.cell? ⟨w.heap.size, 1, none⟩ = some (.int .i64 F) := by rw [hW0]; exact kcell (boxed _ _) c1
  have e2 : W0.cell? ⟨w1.heap.size, 0, none⟩ = some (.int .i64 K) := by rw [hW0]; simp [go_sem]
  have e3 : W0.cell? ⟨w1.heap.size, 1, none⟩ = some (.int .i64 F) := by rw [hW0]; simp [go_sem]
  have HB0 : Hid (Below w.heap.size w W0) := Lib.hid (by rw [hW0]; exact up2 HB1.out (boxed _ _))
  have HL0 := Lib.hid (HL.out.below HB0.out)
  rw [← hW0]
  clear hW0 c0 c1 hz
  obtain ⟨bc, hbc⟩ : ∃ bc, bc = w.heap.size := ⟨_, rfl⟩
  obtain ⟨bo, hbo⟩ : ∃ bo, bo = w1.heap.size := ⟨_, rfl⟩
  rw [← hbc] at e0 e1
  rw [← hbo] at e2 e3
  rw [← hbc, ← hbo]
  have HBC := Lib.hid hbc
  clear hbc hbo
  go_region_held3 (fun w' => w'.cell? ⟨bc, 0, none⟩ = some (.int .i64 K) ∧ w'.cell? ⟨bc, 1, none⟩ = some (.int .i64 F) ∧ w'.cell? ⟨bo, 0, none⟩ = some (.int .i64 K) ∧ w'.cell? ⟨bo, 1, none⟩ = some (.int .i64 F)) (go_keep)
    ((first | (go_at_call 7; ((with_reducible refine (Tells.at HC7.out _ HL0.out.drew).mono ?_); rintro e w2 ⟨rfl, hb1⟩; have HB2 := Lib.hid (HB0.out.drew.trans (hb1.mono HB0.out.size)); have x0 := kcell hb1 (show W0.drew.cell? ⟨bc, 0, none⟩ = _ from e0); have x1 := kcell hb1 (show W0.drew.cell? ⟨bc, 1, none⟩ = _ from e1); have x2 := kcell hb1 (show W0.drew.cell? ⟨bo, 0, none⟩ = _ from e2); have x3 := kcell hb1 (show W0.drew.cell? ⟨bo, 1, none⟩ = _ from e3); clear hb1)) | (go_at_call 8; ((with_reducible refine (Tells.at HC8.out _ (HL.out.below HB2.out)).mono ?_); rintro e w3 ⟨rfl, hb2⟩; have HB3 := Lib.hid (up2 HB2.out hb2); have y0 := kcell hb2 x0; have y1 := kcell hb2 x1; have y2 := kcell hb2 x2; have y3 := kcell hb2 x3; clear hb2))))
  all_goals go_wp2_with fail
  all_goals
    refine (HC8.out w3 (HL.out.below HB3.out)).mono ?_
    rintro e w4 ⟨rfl, hb⟩
    have HB4 := Lib.hid (up2 HB3.out hb)
    clear hb
    go_wp2_with fail
    go_ret
    exact ⟨rfl, HB4.out⟩

set_option maxRecDepth 100000 in
set_option maxHeartbeats 8000000 in
theorem tl_some (K F p day a b u d q1 q2 q3 : Int) (w : World) (hL : Lg w)
    (C7 : Tells 7 #[.agg #[.int .i64 K, .int .i64 F]] (.int .i64 0)) (C8 : Tells 8 #[.agg #[.int .i64 K, .int .i64 F]] (.int .i64 0))
    (C9 : Tells 9 #[.agg #[.int .i64 K, .int .i64 F], .int .i64 p] (.tuple #[.int .i64 a, .int .i64 q1])) (C10 : Tells 10 #[.agg #[.int .i64 K, .int .i64 F], .int .i64 p] (.tuple #[.int .i64 a, .int .i64 q1]))
    (C11 : Tells 11 #[.agg #[.int .i64 K, .int .i64 F], .int .i64 p] (.tuple #[.int .i64 b, .int .i64 q2])) (C12 : Tells 12 #[.agg #[.int .i64 K, .int .i64 F], .int .i64 p] (.tuple #[.int .i64 b, .int .i64 q2]))
    (C13 : Tells 13 #[.agg #[.int .i64 K, .int .i64 F], .int .i64 day] (.tuple #[.int .i64 u, .int .i64 q3])) (C14 : Tells 14 #[.agg #[.int .i64 K, .int .i64 F], .int .i64 day] (.tuple #[.int .i64 u, .int .i64 q3]))
    (C15 : Tells 15 #[.agg #[.int .i64 K, .int .i64 F], .int .i64 p] (.int .i64 d)) (C16 : Tells 16 #[.agg #[.int .i64 K, .int .i64 F], .int .i64 p] (.int .i64 d)) :
    Calls Tryd.prog 3 #[.agg #[.int .i64 K, .int .i64 F], .int .i64 p, .int .i64 day] w fun e w' => e = .returned (.bool true) ∧ Below w.heap.size w w' := by
  have HL := Lib.hid hL
  have HC7 := Lib.hid C7
  have HC8 := Lib.hid C8
  have HC9 := Lib.hid C9
  have HC10 := Lib.hid C10
  have HC11 := Lib.hid C11
  have HC12 := Lib.hid C12
  have HC13 := Lib.hid C13
  have HC14 := Lib.hid C14
  have HC15 := Lib.hid C15
  have HC16 := Lib.hid C16
  clear hL C7 C8 C9 C10 C11 C12 C13 C14 C15 C16
  go_enter Tryd.func3, Tryd.ntmps3
  go_wp2_with fail
  refine (fs_awake _ (HL.out.below (boxed _ _))).mono ?_
  rintro e w1 ⟨rfl, hb⟩
  have c0 : w1.cell? ⟨w.heap.size, 0, none⟩ = some (.int .i64 K) := kcell hb (by simp [go_sem])
  have c1 : w1.cell? ⟨w.heap.size, 1, none⟩ = some (.int .i64 F) := kcell hb (by simp [go_sem])
  have hz : w.heap.size < w1.heap.size := World.block_lt_of_cell? _ _ c0
  have HB1 := Lib.hid (up2 (boxed _ _) hb)
  clear hb
  go_wp2_with fail
  obtain ⟨W0, hW0⟩ : ∃ W0, W0 = w1.alloc (.cells #[.int .i64 K, .int .i64 F] 25) := ⟨_, rfl⟩
  have e0 : W0.cell? ⟨w.heap.size, 0, none⟩ = some (.int .i64 K) := by rw [hW0]; exact kcell (boxed _ _) c0
  have e1 : W0.cell? ⟨w.heap.size, 1, none⟩ = some (.int .i64 F) := by rw [hW0]; exact kcell (boxed _ _) c1
  have e2 : W0.cell? ⟨w1.heap.size, 0, none⟩ = some (.int .i64 K) := by rw [hW0]; simp [go_sem]
  have e3 : W0.cell? ⟨w1.heap.size, 1, none⟩ = some (.int .i64 F) := by rw [hW0]; simp [go_sem]
  have HB0 : Hid (Below w.heap.size w W0) := Lib.hid (by rw [hW0]; exact up2 HB1.out (boxed _ _))
  have HL0 := Lib.hid (HL.out.below HB0.out)
  rw [← hW0]
  clear hW0 c0 c1 hz
  obtain ⟨bc, hbc⟩ : ∃ bc, bc = w.heap.size := ⟨_, rfl⟩
  obtain ⟨bo, hbo⟩ : ∃ bo, bo = w1.heap.size := ⟨_, rfl⟩
  rw [← hbc] at e0 e1
  rw [← hbo] at e2 e3
  rw [← hbc, ← hbo]
  have HBC := Lib.hid hbc
  clear hbc hbo
  go_region_held3 (fun w' => w'.cell? ⟨bc, 0, none⟩ = some (.int .i64 K) ∧ w'.cell? ⟨bc, 1, none⟩ = some (.int .i64 F) ∧ w'.cell? ⟨bo, 0, none⟩ = some (.int .i64 K) ∧ w'.cell? ⟨bo, 1, none⟩ = some (.int .i64 F)) (go_keep)
    ((first | (go_at_call 7; ((with_reducible refine (Tells.at HC7.out _ HL0.out.drew).mono ?_); rintro e w2 ⟨rfl, hb1⟩; have HB2 := Lib.hid (HB0.out.drew.trans (hb1.mono HB0.out.size)); have x0 := kcell hb1 (show W0.drew.cell? ⟨bc, 0, none⟩ = _ from e0); have x1 := kcell hb1 (show W0.drew.cell? ⟨bc, 1, none⟩ = _ from e1); have x2 := kcell hb1 (show W0.drew.cell? ⟨bo, 0, none⟩ = _ from e2); have x3 := kcell hb1 (show W0.drew.cell? ⟨bo, 1, none⟩ = _ from e3); clear hb1)) | (go_at_call 8; ((with_reducible refine (Tells.at HC8.out _ (HL.out.below HB2.out)).mono ?_); rintro e w3 ⟨rfl, hb2⟩; have HB3 := Lib.hid (up2 HB2.out hb2); have y0 := kcell hb2 x0; have y1 := kcell hb2 x1; have y2 := kcell hb2 x2; have y3 := kcell hb2 x3; clear hb2))))
  all_goals go_wp2_with fail
  all_goals
    refine (HC8.out w3 (HL.out.below HB3.out)).mono ?_
    rintro e w4 ⟨rfl, hb⟩
    have z0 := kcell hb y0
    have z1 := kcell hb y1
    have z2 := kcell hb y2
    have z3 := kcell hb y3
    have HB4 := Lib.hid (up2 HB3.out hb)
    clear hb y0 y1 y2 y3
    go_wp2_with fail
    refine (HC9.out w4 (HL.out.below HB4.out)).mono ?_
    rintro e w5 ⟨rfl, hb⟩
    have t0 := kcell hb z0
    have t1 := kcell hb z1
    have t2 := kcell hb z2
    have t3 := kcell hb z3
    have HB5 := Lib.hid (up2 HB4.out hb)
    clear hb z0 z1 z2 z3
    go_wp2_with fail
    refine (HC10.out w5 (HL.out.below HB5.out)).mono ?_
    rintro e w6 ⟨rfl, hb⟩
    have z0 := kcell hb t0
    have z1 := kcell hb t1
    have z2 := kcell hb t2
    have z3 := kcell hb t3
    have HB6 := Lib.hid (up2 HB5.out hb)
    clear hb t0 t1 t2 t3
    go_wp2_with fail
    refine (HC11.out w6 (HL.out.below HB6.out)).mono ?_
    rintro e w7 ⟨rfl, hb⟩
    have t0 := kcell hb z0
    have t1 := kcell hb z1
    have t2 := kcell hb z2
    have t3 := kcell hb z3
    have HB7 := Lib.hid (up2 HB6.out hb)
    clear hb z0 z1 z2 z3
    go_wp2_with fail
    refine (HC12.out w7 (HL.out.below HB7.out)).mono ?_
    rintro e w8 ⟨rfl, hb⟩
    have z0 := kcell hb t0
    have z1 := kcell hb t1
    have z2 := kcell hb t2
    have z3 := kcell hb t3
    have HB8 := Lib.hid (up2 HB7.out hb)
    clear hb t0 t1 t2 t3
    go_wp2_with fail
    refine (HC13.out w8 (HL.out.below HB8.out)).mono ?_
    rintro e w9 ⟨rfl, hb⟩
    have t0 := kcell hb z0
    have t1 := kcell hb z1
    have t2 := kcell hb z2
    have t3 := kcell hb z3
    have HB9 := Lib.hid (up2 HB8.out hb)
    clear hb z0 z1 z2 z3
    go_wp2_with fail
    refine (HC14.out w9 (HL.out.below HB9.out)).mono ?_
    rintro e w10 ⟨rfl, hb⟩
    have z0 := kcell hb t0
    have z1 := kcell hb t1
    have z2 := kcell hb t2
    have z3 := kcell hb t3
    have HB10 := Lib.hid (up2 HB9.out hb)
    clear hb t0 t1 t2 t3
    go_wp2_with fail
    have HL10 := Lib.hid (HL.out.below HB10.out)
    go_region_held3 (fun w' => w'.cell? ⟨bc, 0, none⟩ = some (.int .i64 K) ∧ w'.cell? ⟨bc, 1, none⟩ = some (.int .i64 F) ∧ w'.cell? ⟨bo, 0, none⟩ = some (.int .i64 K) ∧ w'.cell? ⟨bo, 1, none⟩ = some (.int .i64 F)) (go_keep)
      ((first | (go_at_call 15; ((with_reducible refine (Tells.at HC15.out _ HL10.out.drew).mono ?_); rintro e w11 ⟨rfl, hb1⟩; have HB11 := Lib.hid (HB10.out.drew.trans (hb1.mono HB10.out.size)); have x0 := kcell hb1 (show w10.drew.cell? ⟨bc, 0, none⟩ = _ from z0); have x1 := kcell hb1 (show w10.drew.cell? ⟨bc, 1, none⟩ = _ from z1); have x2 := kcell hb1 (show w10.drew.cell? ⟨bo, 0, none⟩ = _ from z2); have x3 := kcell hb1 (show w10.drew.cell? ⟨bo, 1, none⟩ = _ from z3); clear hb1)) | (go_at_call 16; ((with_reducible refine (Tells.at HC16.out _ (HL.out.below HB11.out)).mono ?_); rintro e w12 ⟨rfl, hb2⟩; have HB12 := Lib.hid (up2 HB11.out hb2); have y0 := kcell hb2 x0; have y1 := kcell hb2 x1; have y2 := kcell hb2 x2; have y3 := kcell hb2 x3; clear hb2))))
  all_goals go_wp2_with fail
  all_goals
    go_ret
    exact ⟨rfl, HB12.out⟩

theorem tells_any (K F p day : Int) (w : World) (hL : Lg w) :
    Calls Tryd.prog 3 #[.agg #[.int .i64 K, .int .i64 F], .int .i64 p, .int .i64 day] w fun e w' => e = .returned (.bool true) ∧ Below w.heap.size w w' := by
  by_cases hC : ∃ g, Cal K F g
  · obtain ⟨g, h⟩ := hC
    have hO : ∃ u q, Tells 13 #[.agg #[.int .i64 K, .int .i64 F], .int .i64 day] (.tuple #[.int .i64 u, .int .i64 q]) ∧ Tells 14 #[.agg #[.int .i64 K, .int .i64 F], .int .i64 day] (.tuple #[.int .i64 u, .int .i64 q]) := by
      rcases day_cases h day with a | a | ⟨k, k0, k1, k2, k3⟩
      · exact ⟨_, _, of_before h a, rof_low h.1 a⟩
      · exact ⟨_, _, of_high h a, rof_high h a⟩
      · exact ⟨_, _, of_yes h k0 k1 k2 k3, rof_yes h k0 k1 k2 k3⟩
    obtain ⟨u, q, o1, o2⟩ := hO
    by_cases hr : 0 ≤ p ∧ p < 240
    · obtain ⟨p0, p1⟩ := hr
      exact tl_some K F p day _ _ u _ _ _ q w hL (check_yes h) (rck_yes h) (first_yes h p0 p1) (rfirst_yes h.1 p0 p1) (last_yes h p0 p1) (rlast_yes h.1 p0 p1) o1 o2 (fdays_yes h p0 p1) (rfd_beg h.1 p0 p1)
    · exact tl_some K F p day _ _ u _ _ _ q w hL (check_yes h) (rck_yes h) (first_no hr) (rfirst_no hr) (last_no hr) (rlast_no hr) o1 o2 (fdays_no hr) (rfd_none hr)
  · exact tl_none K F p day w hL (check_no hC) (rck_no hC)
end Go.Proofs.YtmodnkdgkdpacaaDoor
