/- Contracts: Date, Move. -/
import Derived.Test.YtmodnkdgkdpacaaDoorCvE
namespace Go.Proofs.YtmodnkdgkdpacaaDoor
open Go.RowKit

set_option maxHeartbeats 400000 in
theorem date_no (n : Int) (w : World) (h : ¬ (1 ≤ n ∧ n ≤ 999668)) :
    Calls Tryd.prog 17 #[.int .i64 n] w fun e w' => e = .returned (.tuple #[.int .i64 0, .int .i64 0, .int .i64 0, .int .i64 1]) ∧ w = w' := by
  have hd : decide (1 ≤ n ∧ n ≤ 999668) = false := decide_eq_false h
  have CN : ∀ W, Calls Tryd.prog 28 #[.int .i64 n] W fun e w' => e = .returned (.bool false) ∧ W = w' := fun W => by rw [← hd]; exact isNum_any n W
  have HC := Lib.hid CN
  clear CN hd h
  go_enter Tryd.func17, Tryd.ntmps17
  go_wp2_with (go_at_call 28; (with_reducible refine (HC.out _).mono ?_); rintro e w' ⟨rfl, rfl⟩)
  exact bodyPost_ret (v := .tuple #[.int .i64 0, .int .i64 0, .int .i64 0, .int .i64 1]) (by simp [results, Tryd.results17, go_sem]) rfl ⟨rfl, rfl⟩

/-- a date's four answers -/
def Dated4 (w : World) (n : Int) (e : Ending) (w' : World) : Prop := ∃ y m d : Int, e = .returned (.tuple #[.int .i64 y, .int .i64 m, .int .i64 d, .int .i64 0]) ∧ Isd n y m d ∧ Below w.heap.size w w'

set_option maxHeartbeats 1000000 in
theorem date_yes (n : Int) (w : World) (hL : Lg w) (h0 : 1 ≤ n) (h1 : n ≤ 999668) :
    Calls Tryd.prog 17 #[.int .i64 n] w (Dated4 w n) := by
  have hd : decide (1 ≤ n ∧ n ≤ 999668) = true := decide_eq_true ⟨h0, h1⟩
  have CN : ∀ W, Calls Tryd.prog 28 #[.int .i64 n] W fun e w' => e = .returned (.bool true) ∧ W = w' := fun W => by rw [← hd]; exact isNum_any n W
  have HC := Lib.hid CN
  have HL := Lib.hid hL
  clear CN hd hL
  go_enter Tryd.func17, Tryd.ntmps17
  go_wp2_with (go_at_call 28; (with_reducible refine (HC.out _).mono ?_); rintro e w' ⟨rfl, rfl⟩)
  refine (dateOf_any n w HL.out h0 h1).mono ?_
  rintro e w1 ⟨y, m, d, rfl, hI, hb⟩
  have HI := Lib.hid hI
  have HB := Lib.hid hb
  clear hI hb
  go_wp2_with fail
  go_quiet (fail)
  go_wp2_with fail
  exact bodyPost_ret (v := .tuple #[.int .i64 y, .int .i64 m, .int .i64 d, .int .i64 0]) (by simp [results, Tryd.results17, go_sem]) rfl ⟨y, m, d, rfl, HI.out, blw (up2 HB.out (boxed _ _)) nq⟩
theorem date_is (n y m d : Int) (w : World) (hL : Lg w) (hI : Isd n y m d) :
    Calls Tryd.prog 17 #[.int .i64 n] w fun e w' => e = .returned (.tuple #[.int .i64 y, .int .i64 m, .int .i64 d, .int .i64 0]) ∧ Below w.heap.size w w' := by
  have hb := isd_bd hI
  refine (date_yes n w hL hb.1 hb.2).mono ?_
  rintro e w' ⟨y', m', d', rfl, h, b⟩
  obtain ⟨rfl, rfl, rfl⟩ := isd_one h hI
  exact ⟨rfl, b⟩
theorem dateOf_is (n y m d : Int) (w : World) (hL : Lg w) (hI : Isd n y m d) :
    Calls Tryd.prog 29 #[.int .i64 n] w fun e w' => e = .returned (.agg #[.int .i64 y, .int .i64 m, .int .i64 d]) ∧ Below w.heap.size w w' := by
  have hb := isd_bd hI
  refine (dateOf_any n w hL hb.1 hb.2).mono ?_
  rintro e w' ⟨y', m', d', rfl, h, b⟩
  obtain ⟨rfl, rfl, rfl⟩ := isd_one h hI
  exact ⟨rfl, b⟩

/-- months ahead of a date's own -/
def mah (y m : Int) : Int := (y - 1) * 12 + m - 1
/-- the number of the day that is so many months behind the first month of all, of a day of the month -/
def mto (k d : Int) : Int := num (k / 12 + 1) (k % 12 + 1) (min d (dim (k / 12 + 1) (k % 12 + 1)))
theorem mah_bd {y m d : Int} (h : May y m d) : 0 ≤ mah y m ∧ mah y m ≤ 32843 := by
  obtain ⟨h1, h2, h3, h4, h5, h6⟩ := h; unfold mah; omega
theorem may_of {k d : Int} (h0 : 0 ≤ k) (h1 : k ≤ 32843) (d1 : 1 ≤ d) : May (k / 12 + 1) (k % 12 + 1) (min d (dim (k / 12 + 1) (k % 12 + 1))) := by
  have := dim_pos (y := k / 12 + 1) (m := k % 12 + 1) (by omega) (by omega) (by omega)
  unfold May; omega

set_option maxHeartbeats 400000 in
theorem move_none (n q : Int) (w : World) (h : ¬ (1 ≤ n ∧ n ≤ 999668)) :
    Calls Tryd.prog 18 #[.int .i64 n, .int .i64 q] w fun e w' => e = .returned (.tuple #[.int .i64 0, .int .i64 1]) ∧ w = w' := by
  have hd : decide (1 ≤ n ∧ n ≤ 999668) = false := decide_eq_false h
  have CN : ∀ W, Calls Tryd.prog 28 #[.int .i64 n] W fun e w' => e = .returned (.bool false) ∧ W = w' := fun W => by rw [← hd]; exact isNum_any n W
  have HC := Lib.hid CN
  clear CN hd h
  go_enter Tryd.func18, Tryd.ntmps18
  go_wp2_with (go_at_call 28; (with_reducible refine (HC.out _).mono ?_); rintro e w' ⟨rfl, rfl⟩)
  go_ret2
  exact ⟨rfl, rfl⟩

set_option maxHeartbeats 1000000 in
theorem move_no (n y m d q : Int) (w : World) (hL : Lg w) (hI : Isd n y m d) (hq : Am q) (h : q < -mah y m ∨ 32844 - mah y m ≤ q) :
    Calls Tryd.prog 18 #[.int .i64 n, .int .i64 q] w fun e w' => e = .returned (.tuple #[.int .i64 0, .int .i64 1]) ∧ Below w.heap.size w w' := by
  have hd : decide (1 ≤ n ∧ n ≤ 999668) = true := decide_eq_true (isd_bd hI)
  have CN : ∀ W, Calls Tryd.prog 28 #[.int .i64 n] W fun e w' => e = .returned (.bool true) ∧ W = w' := fun W => by rw [← hd]; exact isNum_any n W
  have HC := Lib.hid CN
  have HL := Lib.hid hL
  have HI := Lib.hid hI
  obtain ⟨q1, q2⟩ := hq
  obtain ⟨y1, y2, m1, m2, d1, d2⟩ := hI.1
  have hm := mah_bd hI.1
  unfold mah at h hm
  clear CN hd hL hI d2
  by_cases hlt : q < -((y - 1) * 12 + m - 1)
  · clear h
    go_enter Tryd.func18, Tryd.ntmps18
    go_wp2_with (go_at_call 28; (with_reducible refine (HC.out _).mono ?_); rintro e w' ⟨rfl, rfl⟩)
    refine (dateOf_is n y m d w HL.out HI.out).mono ?_
    rintro e w1 ⟨rfl, hb⟩
    have HB := Lib.hid hb
    clear hb
    go_wp2_with fail
    go_ret2
    exact ⟨rfl, up2 HB.out (boxed _ _)⟩
  · have hge : 32844 - ((y - 1) * 12 + m - 1) ≤ q := by omega
    clear h
    go_enter Tryd.func18, Tryd.ntmps18
    go_wp2_with (go_at_call 28; (with_reducible refine (HC.out _).mono ?_); rintro e w' ⟨rfl, rfl⟩)
    refine (dateOf_is n y m d w HL.out HI.out).mono ?_
    rintro e w1 ⟨rfl, hb⟩
    have HB := Lib.hid hb
    clear hb
    go_wp2_with fail
    go_ret2
    exact ⟨rfl, up2 HB.out (boxed _ _)⟩

theorem bounded_is (y m d : Int) (w : World) (hL : Lg w) (y1 : 1 ≤ y) (y2 : y ≤ 2737) (m1 : 1 ≤ m) (m2 : m ≤ 12) (d1 : 1 ≤ d) (d2 : d ≤ 31) :
    Calls Tryd.prog 30 #[.agg #[.int .i64 y, .int .i64 m, .int .i64 d]] w fun e w' => e = .returned (.agg #[.int .i64 y, .int .i64 m, .int .i64 (min d (dim y m))]) ∧ Below w.heap.size w w' := by
  have := bounded_any y m d w hL (by unfold Am; omega) (by unfold Am; omega) (by unfold Am; omega)
  rw [show min (max y 1) 2737 = y by omega, show min (max m 1) 12 = m by omega, show max d 1 = d by omega] at this
  exact this

set_option maxHeartbeats 2000000 in
theorem move_yes (n y m d q : Int) (w : World) (hL : Lg w) (hI : Isd n y m d) (h1 : -mah y m ≤ q) (h2 : q < 32844 - mah y m) :
    Calls Tryd.prog 18 #[.int .i64 n, .int .i64 q] w fun e w' => e = .returned (.tuple #[.int .i64 (mto (mah y m + q) d), .int .i64 0]) ∧ Below w.heap.size w w' := by
  have hd : decide (1 ≤ n ∧ n ≤ 999668) = true := decide_eq_true (isd_bd hI)
  have CN : ∀ W, Calls Tryd.prog 28 #[.int .i64 n] W fun e w' => e = .returned (.bool true) ∧ W = w' := fun W => by rw [← hd]; exact isNum_any n W
  have HC := Lib.hid CN
  have HL := Lib.hid hL
  have HI := Lib.hid hI
  obtain ⟨y1, y2, m1, m2, d1, d2⟩ := hI.1
  have hm := mah_bd hI.1
  have hdm := dim_bd y m
  obtain ⟨k, hk⟩ : ∃ k, k = mah y m + q := ⟨_, rfl⟩
  have k0 : 0 ≤ k := by omega
  have k1 : k ≤ 32843 := by omega
  rw [← hk]
  unfold mah at h1 h2 hm hk
  have d3 : d ≤ 31 := by omega
  have q1 : -40000 ≤ q := by omega
  have q2 : q ≤ 40000 := by omega
  have HK := Lib.hid hk
  have hlt : ¬ q < -((y - 1) * 12 + m - 1) := by omega
  have hge : ¬ 32844 - ((y - 1) * 12 + m - 1) ≤ q := by omega
  clear CN hd hL hI d2 hdm hk h1 h2
  go_enter Tryd.func18, Tryd.ntmps18
  go_wp2_with (go_at_call 28; (with_reducible refine (HC.out _).mono ?_); rintro e w' ⟨rfl, rfl⟩)
  refine (dateOf_is n y m d w HL.out HI.out).mono ?_
  rintro e w1 ⟨rfl, hb⟩
  have HB := Lib.hid hb
  clear hb
  go_wp2_with fail
  rw [← HK.out]
  have HMay := Lib.hid (may_of k0 k1 d1)
  have HMt : Hid (mto k d = num (k / 12 + 1) (k % 12 + 1) (min d (dim (k / 12 + 1) (k % 12 + 1)))) := Lib.hid rfl
  obtain ⟨Y, hY⟩ : ∃ Y, Y = k / 12 + 1 := ⟨_, rfl⟩
  obtain ⟨M, hM⟩ : ∃ M, M = k % 12 + 1 := ⟨_, rfl⟩
  have y3 : 1 ≤ Y := by omega
  have y4 : Y ≤ 2737 := by omega
  have m3 : 1 ≤ M := by omega
  have m4 : M ≤ 12 := by omega
  rw [← hY, ← hM] at HMay HMt ⊢
  clear hY hM
  refine (bounded_is Y M d _ (HL.out.below (up2 HB.out ((boxed _ _).alloc (by simp) _))) y3 y4 m3 m4 d1 d3).mono ?_
  rintro e w2 ⟨rfl, hb2⟩
  have HB2 := Lib.hid (up2 (up2 HB.out ((boxed _ _).alloc (by simp) _)) hb2)
  clear hb2
  go_wp2_with fail
  refine (number_any Y M (min d (dim Y M)) _ (HL.out.below HB2.out) HMay.out).mono ?_
  rintro e w3 ⟨rfl, hb3⟩
  have HB3 := Lib.hid (up2 HB2.out hb3)
  clear hb3
  rw [← HMt.out]
  go_wp2_with fail
  go_ret2
  exact ⟨rfl, HB3.out⟩
end Go.Proofs.YtmodnkdgkdpacaaDoor
