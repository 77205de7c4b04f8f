/- The law CivilBack, over integers. -/
import Derived.Test.YtjhchfilbaeffaaDoorCvG
namespace Go.Proofs.YtjhchfilbaeffaaDoor
open Go.RowKit

theorem next_date {n y m d y' m' d' : Int} (h : Isd n y m d) (h' : Isd (n + 1) y' m' d') :
    (y' = y ∧ m' = m ∧ d' = d + 1 ∧ d < dim y m) ∨ (d = dim y m ∧ d' = 1 ∧ y' = y ∧ m' = m + 1) ∨ (d = dim y m ∧ d' = 1 ∧ y' = y + 1 ∧ m = 12 ∧ m' = 1) := by
  obtain ⟨⟨a1, a2, a3, a4, a5, a6⟩, hn⟩ := h
  by_cases e : d < dim y m
  · have : Isd (n + 1) y m (d + 1) := ⟨⟨a1, a2, a3, a4, by omega, by omega⟩, by rw [← hn]; unfold num; omega⟩
    obtain ⟨rfl, rfl, rfl⟩ := isd_one this h'
    exact .inl ⟨rfl, rfl, rfl, e⟩
  · have ed : d = dim y m := by omega
    by_cases e2 : m < 12
    · have hp := dim_pos (y := y) (m := m + 1) a1 (by omega) (by omega)
      have hc := cum_next (y := y) a1 a3 a4
      have : Isd (n + 1) y (m + 1) 1 := ⟨⟨a1, a2, by omega, by omega, by omega, by omega⟩, by rw [← hn]; unfold num; omega⟩
      obtain ⟨rfl, rfl, rfl⟩ := isd_one this h'
      exact .inr (.inl ⟨ed, rfl, rfl, rfl⟩)
    · obtain rfl : m = 12 := by omega
      have hc := cum_next (y := y) a1 a3 a4
      have hd := dby_next a1
      rw [show (12 : Int) + 1 = 13 by omega] at hc
      have hb := (isd_bd h').2
      have y2 : y < 2737 := by
        by_cases q : y < 2737
        · exact q
        · exfalso
          obtain rfl : y = 2737 := by omega
          rw [show (2737 : Int) + 1 = 2738 by omega, dby_all] at hd
          unfold num at hn; omega
      have hp := dim_pos (y := y + 1) (m := 1) (by omega) (by omega) (by omega)
      have h1 := cum_one (y + 1)
      have : Isd (n + 1) (y + 1) 1 1 := ⟨⟨by omega, by omega, by omega, by omega, by omega, by omega⟩, by rw [← hn]; unfold num; omega⟩
      obtain ⟨rfl, rfl, rfl⟩ := isd_one this h'
      exact .inr (.inr ⟨ed, rfl, rfl, rfl, rfl⟩)

set_option maxRecDepth 100000 in
set_option maxHeartbeats 4000000 in
theorem back_any (n y m d : Int) (w : World) (hL : Lg w) (hn : Am n) (hy : Am y) (hm : Am m) (hd : Am d) :
    Calls Tryd.prog 5 #[.int .i64 n, .int .i64 y, .int .i64 m, .int .i64 d] w fun e w' => e = .returned (.bool true) ∧ Below w.heap.size w w' := by
  have HL := Lib.hid hL
  have HN := Lib.hid hn
  have HY := Lib.hid hy
  have HM := Lib.hid hm
  have HD := Lib.hid hd
  clear hL hn hy hm hd
  go_enter Tryd.func5, Tryd.ntmps5
  go_wp2_with fail
  refine (awake_any w HL.out).mono ?_
  rintro e w1 ⟨rfl, hb⟩
  have HB1 := Lib.hid hb
  clear hb
  by_cases h : 1 ≤ n ∧ n ≤ 999668
  · obtain ⟨y1, m1, d1, hI⟩ := isd_some h.1 h.2
    have HI := Lib.hid hI
    obtain ⟨⟨a1, a2, a3, a4, a5, a6⟩, _⟩ := hI
    obtain ⟨n0, n1⟩ := h
    have b31 := dim_bd y1 m1
    go_wp2_with fail
    refine (date_is n y1 m1 d1 w1 (HL.out.below HB1.out) HI.out).mono ?_
    rintro e w2 ⟨rfl, hb⟩
    have HB2 := Lib.hid (up2 HB1.out hb)
    clear hb
    go_upto_if 37 with fail
    go_cut [] (fun wx => Below w.heap.size w wx)
    case first =>
      go_wp2_with fail
      refine (days_is y1 m1 d1 n w2 (HL.out.below HB2.out) HI.out (by omega)).mono ?_
      rintro e w3 ⟨rfl, hb⟩
      have HB3 := Lib.hid (up2 HB2.out hb)
      clear hb
      go_wp2_with fail
      refine (long_any y1 m1 w3 (HL.out.below HB3.out) (am_small (by omega) (by omega))).mono ?_
      rintro e w4 ⟨rfl, rfl⟩
      by_cases h2 : n + 1 ≤ 999668
      · obtain ⟨y2, m2, d2, hI2⟩ := isd_some (n := n + 1) (by omega) h2
        have nx := next_date HI.out hI2
        have HI2 := Lib.hid hI2
        clear hI2
        rcases nx with ⟨rfl, rfl, rfl, hlt⟩ | ⟨ed, rfl, rfl, rfl⟩ | ⟨ed, rfl, rfl, rfl, rfl⟩
        · have hz : (d1 == dim y2 m2) = false := by simp; omega
          go_wp2_with fail
          refine (date_is (n + 1) y2 m2 (d1 + 1) w3 (HL.out.below HB3.out) HI2.out).mono ?_
          rintro e w4 ⟨rfl, hb⟩
          have HB4 := Lib.hid (up2 HB3.out hb)
          clear hb
          go_wp2_with fail
          refine (long_any y2 m2 w4 (HL.out.below HB4.out) (am_small (by omega) (by omega))).mono ?_
          rintro e w5 ⟨rfl, rfl⟩
          go_wp2_with fail
          go_meet
          exact HB4.out
        · have hz : (d1 == dim y2 m1) = true := by simp; omega
          have hz2 : (m1 + 1 == m1) = false := beq_eq_false_iff_ne.2 (by omega)
          clear ed
          go_wp2_with fail
          refine (date_is (n + 1) y2 (m1 + 1) 1 w3 (HL.out.below HB3.out) HI2.out).mono ?_
          rintro e w4 ⟨rfl, hb⟩
          have HB4 := Lib.hid (up2 HB3.out hb)
          clear hb
          go_wp2_with fail
          refine (long_any y2 m1 w4 (HL.out.below HB4.out) (am_small (by omega) (by omega))).mono ?_
          rintro e w5 ⟨rfl, rfl⟩
          go_wp2_with fail
          go_meet
          exact HB4.out
        · have hz : (d1 == dim y1 12) = true := by simp; omega
          have hz2 : (y1 + 1 == y1) = false := beq_eq_false_iff_ne.2 (by omega)
          clear ed
          go_wp2_with fail
          refine (date_is (n + 1) (y1 + 1) 1 1 w3 (HL.out.below HB3.out) HI2.out).mono ?_
          rintro e w4 ⟨rfl, hb⟩
          have HB4 := Lib.hid (up2 HB3.out hb)
          clear hb
          go_wp2_with fail
          refine (long_any y1 12 w4 (HL.out.below HB4.out) (am_small (by omega) (by omega))).mono ?_
          rintro e w5 ⟨rfl, rfl⟩
          go_wp2_with fail
          go_meet
          exact HB4.out
      · go_wp2_with fail
        refine (date_no (n + 1) w3 (by omega)).mono ?_
        rintro e w4 ⟨rfl, rfl⟩
        go_wp2_with fail
        go_meet
        exact HB3.out
    case rest =>
      have HBX := Lib.hid hcut
      clear hcut HB1 HB2
      have HB3 := HBX
      cases hm : mayB y m d
      · go_wp2_with fail
        refine (days_no y m d _ (HL.out.below HB3.out) HY.out HM.out HD.out hm).mono ?_
        rintro e wy ⟨rfl, hb⟩
        have HB4 := Lib.hid (up2 HB3.out hb)
        clear hb
        go_wp2_with fail
        go_ret
        exact ⟨rfl, HB4.out⟩
      · have HI2 : Hid (Isd (num y m d) y m d) := Lib.hid (isd_of (of_decide_eq_true hm))
        go_wp2_with fail
        refine (days_yes y m d _ (HL.out.below HB3.out) HY.out HM.out HD.out hm).mono ?_
        rintro e wy ⟨rfl, hb⟩
        have HB4 := Lib.hid (up2 HB3.out hb)
        clear hb
        go_wp2_with fail
        refine (date_is (num y m d) y m d _ (HL.out.below HB4.out) HI2.out).mono ?_
        rintro e wz ⟨rfl, hb⟩
        have HB5 := Lib.hid (up2 HB4.out hb)
        clear hb
        go_wp2_with fail
        go_ret
        exact ⟨rfl, HB5.out⟩
  · go_wp2_with fail
    refine (date_no n w1 h).mono ?_
    rintro e w2 ⟨rfl, rfl⟩
    have HBX := HB1
    have HB3 := HBX
    cases hm : mayB y m d
    · go_wp2_with fail
      refine (days_no y m d _ (HL.out.below HB3.out) HY.out HM.out HD.out hm).mono ?_
      rintro e wy ⟨rfl, hb⟩
      have HB4 := Lib.hid (up2 HB3.out hb)
      clear hb
      go_wp2_with fail
      go_ret
      exact ⟨rfl, HB4.out⟩
    · have HI2 : Hid (Isd (num y m d) y m d) := Lib.hid (isd_of (of_decide_eq_true hm))
      go_wp2_with fail
      refine (days_yes y m d _ (HL.out.below HB3.out) HY.out HM.out HD.out hm).mono ?_
      rintro e wy ⟨rfl, hb⟩
      have HB4 := Lib.hid (up2 HB3.out hb)
      clear hb
      go_wp2_with fail
      refine (date_is (num y m d) y m d _ (HL.out.below HB4.out) HI2.out).mono ?_
      rintro e wz ⟨rfl, hb⟩
      have HB5 := Lib.hid (up2 HB4.out hb)
      clear hb
      go_wp2_with fail
      go_ret
      exact ⟨rfl, HB5.out⟩
end Go.Proofs.YtjhchfilbaeffaaDoor
