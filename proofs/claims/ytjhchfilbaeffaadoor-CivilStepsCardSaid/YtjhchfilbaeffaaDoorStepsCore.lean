/- The law CivilSteps, over integers. -/
import Derived.Test.YtjhchfilbaeffaaDoorCvG
namespace Go.Proofs.YtjhchfilbaeffaaDoor
open Go.RowKit

theorem mto_isd {K d : Int} (h0 : 0 ≤ K) (h1 : K ≤ 32843) (d1 : 1 ≤ d) (d2 : d ≤ 28) : Isd (mto K d) (K / 12 + 1) (K % 12 + 1) d := by
  have hp := dim_pos (y := K / 12 + 1) (m := K % 12 + 1) (by omega) (by omega) (by omega)
  have := isd_of (may_of h0 h1 d1)
  have e : min d (dim (K / 12 + 1) (K % 12 + 1)) = d := by omega
  unfold mto
  rw [e] at this ⊢
  exact this
theorem mah_mto (K : Int) : mah (K / 12 + 1) (K % 12 + 1) = K := by unfold mah; omega
theorem mto_back {n y m d : Int} (h : Isd n y m d) : mto (mah y m) d = n := by
  obtain ⟨⟨a1, a2, a3, a4, a5, a6⟩, hn⟩ := h
  unfold mto mah
  rw [show ((y - 1) * 12 + m - 1) / 12 + 1 = y by omega, show ((y - 1) * 12 + m - 1) % 12 + 1 = m by omega, show min d (dim y m) = d by omega]
  exact hn

theorem steps_out1 (n s t : Int) (w : World) (hL : Lg w) (h : s < -40000) :
    Calls Tryd.prog 7 #[.int .i64 n, .int .i64 s, .int .i64 t] w fun e w' => e = .returned (.bool true) ∧ Below w.heap.size w w' := by
  go_enter Tryd.func7, Tryd.ntmps7
  go_wp2_with fail
  refine (awake_any w hL).mono ?_
  rintro e w1 ⟨rfl, hb⟩
  have HB1 := Lib.hid hb
  clear hb hL
  go_wp2_with fail
  go_ret
  exact ⟨rfl, HB1.out⟩
theorem steps_out2 (n s t : Int) (w : World) (hL : Lg w) (h : 40000 < s) :
    Calls Tryd.prog 7 #[.int .i64 n, .int .i64 s, .int .i64 t] w fun e w' => e = .returned (.bool true) ∧ Below w.heap.size w w' := by
  go_enter Tryd.func7, Tryd.ntmps7
  go_wp2_with fail
  refine (awake_any w hL).mono ?_
  rintro e w1 ⟨rfl, hb⟩
  have HB1 := Lib.hid hb
  clear hb hL
  go_wp2_with fail
  go_ret
  exact ⟨rfl, HB1.out⟩
theorem steps_out3 (n s t : Int) (w : World) (hL : Lg w) (h : t < -40000) (s1 : -40000 ≤ s) (s2 : s ≤ 40000) :
    Calls Tryd.prog 7 #[.int .i64 n, .int .i64 s, .int .i64 t] w fun e w' => e = .returned (.bool true) ∧ Below w.heap.size w w' := by
  go_enter Tryd.func7, Tryd.ntmps7
  go_wp2_with fail
  refine (awake_any w hL).mono ?_
  rintro e w1 ⟨rfl, hb⟩
  have HB1 := Lib.hid hb
  clear hb hL
  go_wp2_with fail
  go_ret
  exact ⟨rfl, HB1.out⟩
theorem steps_out4 (n s t : Int) (w : World) (hL : Lg w) (h : 40000 < t) (s1 : -40000 ≤ s) (s2 : s ≤ 40000) :
    Calls Tryd.prog 7 #[.int .i64 n, .int .i64 s, .int .i64 t] w fun e w' => e = .returned (.bool true) ∧ Below w.heap.size w w' := by
  go_enter Tryd.func7, Tryd.ntmps7
  go_wp2_with fail
  refine (awake_any w hL).mono ?_
  rintro e w1 ⟨rfl, hb⟩
  have HB1 := Lib.hid hb
  clear hb hL
  go_wp2_with fail
  go_ret
  exact ⟨rfl, HB1.out⟩

theorem steps_none (n s t : Int) (w : World) (hL : Lg w) (h : ¬ (1 ≤ n ∧ n ≤ 999668)) (s1 : -40000 ≤ s) (s2 : s ≤ 40000) (t1 : -40000 ≤ t) (t2 : t ≤ 40000) :
    Calls Tryd.prog 7 #[.int .i64 n, .int .i64 s, .int .i64 t] w fun e w' => e = .returned (.bool true) ∧ Below w.heap.size w w' := by
  have HL := Lib.hid hL
  clear hL
  go_enter Tryd.func7, Tryd.ntmps7
  go_wp2_with fail
  refine (awake_any w HL.out).mono ?_
  rintro e w1 ⟨rfl, hb⟩
  have HB1 := Lib.hid hb
  clear hb
  go_wp2_with fail
  refine (date_no n w1 h).mono ?_
  rintro e w2 ⟨rfl, rfl⟩
  go_wp2_with fail
  go_ret
  exact ⟨rfl, HB1.out⟩
theorem steps_late (n s t y m d : Int) (w : World) (hL : Lg w) (hI : Isd n y m d) (h : 28 < d) (s1 : -40000 ≤ s) (s2 : s ≤ 40000) (t1 : -40000 ≤ t) (t2 : t ≤ 40000) :
    Calls Tryd.prog 7 #[.int .i64 n, .int .i64 s, .int .i64 t] w fun e w' => e = .returned (.bool true) ∧ Below w.heap.size w w' := by
  have HL := Lib.hid hL
  have HI := Lib.hid hI
  clear hL hI
  go_enter Tryd.func7, Tryd.ntmps7
  go_wp2_with fail
  refine (awake_any w HL.out).mono ?_
  rintro e w1 ⟨rfl, hb⟩
  have HB1 := Lib.hid hb
  clear hb
  go_wp2_with fail
  refine (date_is n y m d w1 (HL.out.below HB1.out) HI.out).mono ?_
  rintro e w2 ⟨rfl, hb⟩
  have HB2 := Lib.hid (up2 HB1.out hb)
  clear hb
  go_wp2_with fail
  go_ret
  exact ⟨rfl, HB2.out⟩
theorem steps_far (n s t y m d : Int) (w : World) (hL : Lg w) (hI : Isd n y m d) (h : ¬ 28 < d) (s1 : -40000 ≤ s) (s2 : s ≤ 40000) (t1 : -40000 ≤ t) (t2 : t ≤ 40000) (hf : s < -mah y m ∨ 32844 - mah y m ≤ s) :
    Calls Tryd.prog 7 #[.int .i64 n, .int .i64 s, .int .i64 t] w fun e w' => e = .returned (.bool true) ∧ Below w.heap.size w w' := by
  have HL := Lib.hid hL
  have HI := Lib.hid hI
  have HF := Lib.hid hf
  clear hL hI hf
  go_enter Tryd.func7, Tryd.ntmps7
  go_wp2_with fail
  refine (awake_any w HL.out).mono ?_
  rintro e w1 ⟨rfl, hb⟩
  have HB1 := Lib.hid hb
  clear hb
  go_wp2_with fail
  refine (date_is n y m d w1 (HL.out.below HB1.out) HI.out).mono ?_
  rintro e w2 ⟨rfl, hb⟩
  have HB2 := Lib.hid (up2 HB1.out hb)
  clear hb
  go_wp2_with fail
  refine (move_no n y m d s w2 (HL.out.below HB2.out) HI.out (am_small (by omega) (by omega)) HF.out).mono ?_
  rintro e w3 ⟨rfl, hb⟩
  have HB3 := Lib.hid (up2 HB2.out hb)
  clear hb
  go_wp2_with fail
  go_ret
  exact ⟨rfl, HB3.out⟩

set_option maxRecDepth 100000 in
set_option maxHeartbeats 4000000 in
theorem steps_some (n s t y m d : Int) (w : World) (hL : Lg w) (hI : Isd n y m d) (h : ¬ 28 < d) (s1 : -40000 ≤ s) (s2 : s ≤ 40000) (t1 : -40000 ≤ t) (t2 : t ≤ 40000) (h1 : -mah y m ≤ s) (h2 : s < 32844 - mah y m) :
    Calls Tryd.prog 7 #[.int .i64 n, .int .i64 s, .int .i64 t] w fun e w' => e = .returned (.bool true) ∧ Below w.heap.size w w' := by
  have HL := Lib.hid hL
  have HI := Lib.hid hI
  have HS := Lib.hid (And.intro h1 h2)
  obtain ⟨K, hK⟩ : ∃ K, K = mah y m + s := ⟨_, rfl⟩
  obtain ⟨⟨a1, a2, a3, a4, a5, a6⟩, _⟩ := hI
  have k0 : 0 ≤ K := by omega
  have k1 : K ≤ 32843 := by omega
  have hA := mto_isd k0 k1 a5 (by omega)
  obtain ⟨a, ha⟩ : ∃ a, a = mto K d := ⟨_, rfl⟩
  rw [← ha] at hA
  have hM := mah_mto K
  have hE : (12 * (K / 12 + 1) + (K % 12 + 1) == 12 * y + m + s) = true := by unfold mah at hK; simp; omega
  obtain ⟨Y, hY⟩ : ∃ Y, Y = K / 12 + 1 := ⟨_, rfl⟩
  obtain ⟨M, hMM⟩ : ∃ M, M = K % 12 + 1 := ⟨_, rfl⟩
  have Y1 : 1 ≤ Y := by omega
  have Y2 : Y ≤ 2737 := by omega
  have M1 : 1 ≤ M := by omega
  have M2 : M ≤ 12 := by omega
  rw [← hY, ← hMM] at hA hM hE
  have HA := Lib.hid hA
  have HE := Lib.hid hE
  have hback : mto (mah Y M + -s) d = n := by rw [hM, hK, show mah y m + s + -s = mah y m by omega]; exact mto_back HI.out
  have C1 : Hid (∀ W, Lg W → Calls Tryd.prog 19 #[.int .i64 n, .int .i64 s] W fun e w' => e = .returned (.tuple #[.int .i64 a, .int .i64 0]) ∧ Below W.heap.size W w') :=
    Lib.hid fun W h => by have := move_yes n y m d s W h HI.out HS.out.1 HS.out.2; rw [← hK, ← ha] at this; exact this
  have C2 : Hid (∀ W, Lg W → Calls Tryd.prog 19 #[.int .i64 a, .int .i64 (-s)] W fun e w' => e = .returned (.tuple #[.int .i64 n, .int .i64 0]) ∧ Below W.heap.size W w') :=
    Lib.hid fun W h => by
      have hm := mah_bd HI.out.1
      have := move_yes a Y M d (-s) W h HA.out (by omega) (by omega); rw [hback] at this; exact this
  obtain ⟨b, g, C3, C4⟩ : ∃ b g : Int, Hid (∀ W, Lg W → Calls Tryd.prog 19 #[.int .i64 a, .int .i64 t] W fun e w' => e = .returned (.tuple #[.int .i64 b, .int .i64 g]) ∧ Below W.heap.size W w') ∧
      Hid (∀ W, Lg W → Calls Tryd.prog 19 #[.int .i64 n, .int .i64 (s + t)] W fun e w' => e = .returned (.tuple #[.int .i64 b, .int .i64 g]) ∧ Below W.heap.size W w') := by
    by_cases q : -K ≤ t ∧ t < 32844 - K
    · refine ⟨mto (K + t) d, 0, Lib.hid fun W h => ?_, Lib.hid fun W h => ?_⟩
      · have := move_yes a Y M d t W h HA.out (by omega) (by omega); rw [hM] at this; exact this
      · have := move_yes n y m d (s + t) W h HI.out (by omega) (by omega); rw [show mah y m + (s + t) = K + t by omega] at this; exact this
    · refine ⟨0, 1, Lib.hid fun W h => ?_, Lib.hid fun W h => ?_⟩
      · exact move_no a Y M d t W h HA.out (am_small (by omega) (by omega)) (by omega)
      · exact move_no n y m d (s + t) W h HI.out (am_small (by omega) (by omega)) (by omega)
  clear hL hA hM hE hback hY hMM ha hK h1 h2 k0 k1
  go_enter Tryd.func7, Tryd.ntmps7
  go_wp2_with fail
  refine (awake_any w HL.out).mono ?_
  rintro e w1 ⟨rfl, hb⟩
  have HB1 := Lib.hid hb
  clear hb
  go_wp2_with fail
  refine (date_is n y m d w1 (HL.out.below HB1.out) HI.out).mono ?_
  rintro e w2 ⟨rfl, hb⟩
  have HB2 := Lib.hid (up2 HB1.out hb)
  clear hb
  go_wp2_with fail
  refine (C1.out w2 (HL.out.below HB2.out)).mono ?_
  rintro e w3 ⟨rfl, hb⟩
  have HB3 := Lib.hid (up2 HB2.out hb)
  clear hb
  go_wp2_with fail
  refine (C3.out w3 (HL.out.below HB3.out)).mono ?_
  rintro e w4 ⟨rfl, hb⟩
  have HB4 := Lib.hid (up2 HB3.out hb)
  clear hb
  go_wp2_with fail
  refine (C4.out w4 (HL.out.below HB4.out)).mono ?_
  rintro e w5 ⟨rfl, hb⟩
  have HB5 := Lib.hid (up2 HB4.out hb)
  clear hb
  go_wp2_with fail
  refine (C2.out w5 (HL.out.below HB5.out)).mono ?_
  rintro e w6 ⟨rfl, hb⟩
  have HB6 := Lib.hid (up2 HB5.out hb)
  clear hb
  go_wp2_with fail
  refine (date_is a Y M d w6 (HL.out.below HB6.out) HA.out).mono ?_
  rintro e w7 ⟨rfl, hb⟩
  have HB7 := Lib.hid (up2 HB6.out hb)
  clear hb
  have hE := HE.out
  go_wp2_with fail
  go_ret
  exact ⟨by simp, HB7.out⟩

theorem steps_any (n s t : Int) (w : World) (hL : Lg w) :
    Calls Tryd.prog 7 #[.int .i64 n, .int .i64 s, .int .i64 t] w fun e w' => e = .returned (.bool true) ∧ Below w.heap.size w w' := by
  by_cases q1 : s < -40000
  · exact steps_out1 n s t w hL q1
  by_cases q2 : 40000 < s
  · exact steps_out2 n s t w hL q2
  by_cases q3 : t < -40000
  · exact steps_out3 n s t w hL q3 (by omega) (by omega)
  by_cases q4 : 40000 < t
  · exact steps_out4 n s t w hL q4 (by omega) (by omega)
  by_cases h : 1 ≤ n ∧ n ≤ 999668
  · obtain ⟨y, m, d, hI⟩ := isd_some h.1 h.2
    by_cases hd : 28 < d
    · exact steps_late n s t y m d w hL hI hd (by omega) (by omega) (by omega) (by omega)
    · by_cases hf : s < -mah y m ∨ 32844 - mah y m ≤ s
      · exact steps_far n s t y m d w hL hI hd (by omega) (by omega) (by omega) (by omega) hf
      · exact steps_some n s t y m d w hL hI hd (by omega) (by omega) (by omega) (by omega) (by omega) (by omega)
  · exact steps_none n s t w hL h (by omega) (by omega) (by omega) (by omega)
end Go.Proofs.YtjhchfilbaeffaaDoor
