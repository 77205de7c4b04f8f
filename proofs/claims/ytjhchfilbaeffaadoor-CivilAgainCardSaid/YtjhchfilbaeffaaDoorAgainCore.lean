/- The law CivilAgain, over integers. -/
import Derived.Test.YtjhchfilbaeffaaDoorCvG
namespace Go.Proofs.YtjhchfilbaeffaaDoor
open Go.RowKit

theorem leap_400th {y : Int} (h : 1 ≤ y) : leapB (y + 400) = leapB y := by
  unfold leapB; rw [decide_eq_decide]; omega
theorem dim_400th {y : Int} (h : 1 ≤ y) (m : Int) : dim (y + 400) m = dim y m := by
  unfold dim
  rw [leap_400th h]
  have e : (y + 400 < 1 ∨ m < 1 ∨ 12 < m) ↔ (y < 1 ∨ m < 1 ∨ 12 < m) := by omega
  simp only [e]
theorem cum_400th {y : Int} (h : 1 ≤ y) (m : Int) : cum (y + 400) m = cum y m := by unfold cum; rw [leap_400th h]
theorem num_400th {y : Int} (h : 1 ≤ y) (m d : Int) : num (y + 400) m d = num y m d + 146097 := by
  unfold num; rw [cum_400th h]; unfold dby; omega
theorem may_400th {y m d : Int} (h1 : 1 ≤ y) (h2 : y ≤ 2337) : mayB (y + 400) m d = mayB y m d := by
  unfold mayB; rw [Bool.eq_iff_iff, decide_eq_true_iff, decide_eq_true_iff]; unfold May; rw [dim_400th h1]; omega
theorem wday_400th {n : Int} (h : 1 ≤ n) : wday (n + 146097) = wday n := by
  unfold wday; rw [if_neg (by omega), if_neg (by omega)]; omega
theorem mto_400th {y m d : Int} (h : May y m d) : mto (mah y m + 4800) d = num y m d + 146097 := by
  obtain ⟨a1, a2, a3, a4, a5, a6⟩ := h
  unfold mto mah
  rw [show ((y - 1) * 12 + m - 1 + 4800) / 12 + 1 = y + 400 by omega, show ((y - 1) * 12 + m - 1 + 4800) % 12 + 1 = m by omega, dim_400th a1, show min d (dim y m) = d by omega]
  exact num_400th a1 m d

theorem again_out (y m d : Int) (w : World) (hL : Lg w) (h : y < 1 ∨ 2337 < y) :
    Calls Tryd.prog 6 #[.int .i64 y, .int .i64 m, .int .i64 d] w fun e w' => e = .returned (.bool true) ∧ Below w.heap.size w w' := by
  by_cases h1 : y < 1
  · clear h
    go_enter Tryd.func6, Tryd.ntmps6
    go_wp2_with fail
    refine (awake_any w hL).mono ?_
    rintro e w1 ⟨rfl, hb⟩
    have HB1 := Lib.hid hb
    clear hb hL
    go_wp2_with fail
    go_ret
    exact ⟨rfl, HB1.out⟩
  · have h2 : 2337 < y := by omega
    clear h
    go_enter Tryd.func6, Tryd.ntmps6
    go_wp2_with fail
    refine (awake_any w hL).mono ?_
    rintro e w1 ⟨rfl, hb⟩
    have HB1 := Lib.hid hb
    clear hb hL
    go_wp2_with fail
    go_ret
    exact ⟨rfl, HB1.out⟩

set_option maxRecDepth 100000 in
set_option maxHeartbeats 4000000 in
theorem again_any (y m d : Int) (w : World) (hL : Lg w) (hy : Am y) (hm : Am m) (hd : Am d) :
    Calls Tryd.prog 6 #[.int .i64 y, .int .i64 m, .int .i64 d] w fun e w' => e = .returned (.bool true) ∧ Below w.heap.size w w' := by
  by_cases hr : y < 1 ∨ 2337 < y
  · exact again_out y m d w hL hr
  have y1 : 1 ≤ y := by omega
  have y2 : y ≤ 2337 := by omega
  have HL := Lib.hid hL
  have HY := Lib.hid hy
  have HY4 : Hid (Am (y + 400)) := Lib.hid (am_small (by omega) (by omega))
  have HM := Lib.hid hm
  have HD := Lib.hid hd
  have H4 := Lib.hid (may_400th (m := m) (d := d) y1 y2)
  clear hL hy hm hd hr
  cases h : mayB y m d
  · go_enter Tryd.func6, Tryd.ntmps6
    go_wp2_with fail
    refine (awake_any w HL.out).mono ?_
    rintro e w1 ⟨rfl, hb⟩
    have HB1 := Lib.hid hb
    clear hb
    go_wp2_with fail
    refine (days_no y m d w1 (HL.out.below HB1.out) HY.out HM.out HD.out h).mono ?_
    rintro e w2 ⟨rfl, hb⟩
    have HB2 := Lib.hid (up2 HB1.out hb)
    clear hb
    go_wp2_with fail
    refine (days_no (y + 400) m d w2 (HL.out.below HB2.out) HY4.out HM.out HD.out (H4.out.trans h)).mono ?_
    rintro e w3 ⟨rfl, hb⟩
    have HB3 := Lib.hid (up2 HB2.out hb)
    clear hb
    go_wp2_with fail
    go_ret
    exact ⟨rfl, HB3.out⟩
  · have hM : May y m d := of_decide_eq_true h
    have hI := isd_of hM
    have hI4 : Isd (num y m d + 146097) (y + 400) m d := ⟨of_decide_eq_true (H4.out.trans h), num_400th y1 m d⟩
    have mt := Lib.hid (mto_400th hM)
    have wd := Lib.hid (wday_400th (isd_bd hI).1)
    have lp := Lib.hid (leap_400th y1)
    have q1 : -mah y m ≤ 4800 := by have := mah_bd hM; omega
    have q2 : 4800 < 32844 - mah y m := by unfold mah; have := hM.2.2.2.1; have := hM.2.2.1; omega
    have hb1 := isd_bd hI
    obtain ⟨k, hk⟩ : ∃ k, k = num y m d := ⟨_, rfl⟩
    rw [← hk] at hI hI4 mt wd hb1
    obtain ⟨k0, k1⟩ := hb1
    have HI := Lib.hid hI
    have HI4 := Lib.hid hI4
    have HQ := Lib.hid (And.intro q1 q2)
    have HMV : Hid (∀ W, Lg W → Calls Tryd.prog 19 #[.int .i64 k, .int .i64 4800] W fun e w' => e = .returned (.tuple #[.int .i64 (k + 146097), .int .i64 0]) ∧ Below W.heap.size W w') :=
      Lib.hid fun W h => by
        have := move_yes k y m d 4800 W h HI.out HQ.out.1 HQ.out.2
        rw [mt.out] at this
        exact this
    have HW4 : Hid (∀ W, Calls Tryd.prog 17 #[.int .i64 (k + 146097)] W fun e w' => e = .returned (.int .i64 (wday k)) ∧ W = w') :=
      Lib.hid fun W => by
        have := wday_any (k + 146097) W (by unfold Am; omega)
        rw [wd.out] at this
        exact this
    have HLP : Hid (∀ W, Calls Tryd.prog 13 #[.int .i64 (y + 400)] W fun e w' => e = .returned (.bool (leapB y)) ∧ W = w') :=
      Lib.hid fun W => by
        have := leap_any (y + 400) W HY4.out
        rw [lp.out] at this
        exact this
    clear hI hI4 hM mt wd lp hk q1 q2 h
    go_enter Tryd.func6, Tryd.ntmps6
    go_wp2_with fail
    refine (awake_any w HL.out).mono ?_
    rintro e w1 ⟨rfl, hb⟩
    have HB1 := Lib.hid hb
    clear hb
    go_wp2_with fail
    refine (days_is y m d k w1 (HL.out.below HB1.out) HI.out (by omega)).mono ?_
    rintro e w2 ⟨rfl, hb⟩
    have HB2 := Lib.hid (up2 HB1.out hb)
    clear hb
    go_wp2_with fail
    refine (days_is (y + 400) m d (k + 146097) w2 (HL.out.below HB2.out) HI4.out (by omega)).mono ?_
    rintro e w3 ⟨rfl, hb⟩
    have HB3 := Lib.hid (up2 HB2.out hb)
    clear hb
    go_wp2_with fail
    refine (HMV.out w3 (HL.out.below HB3.out)).mono ?_
    rintro e w4 ⟨rfl, hb⟩
    have HB4 := Lib.hid (up2 HB3.out hb)
    clear hb
    go_wp2_with fail
    refine (wday_any k w4 (by unfold Am; omega)).mono ?_
    rintro e w5 ⟨rfl, rfl⟩
    go_wp2_with fail
    refine (HW4.out w4).mono ?_
    rintro e w5 ⟨rfl, rfl⟩
    go_wp2_with fail
    refine (leap_any y w4 HY.out).mono ?_
    rintro e w5 ⟨rfl, rfl⟩
    go_wp2_with fail
    refine (HLP.out w4).mono ?_
    rintro e w5 ⟨rfl, rfl⟩
    go_wp2_with fail
    go_ret
    exact ⟨by simp, HB4.out⟩
end Go.Proofs.YtjhchfilbaeffaaDoor
