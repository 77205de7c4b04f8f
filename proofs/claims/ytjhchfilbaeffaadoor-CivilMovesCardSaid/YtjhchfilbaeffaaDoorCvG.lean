/- awake; what the laws share. -/
import Derived.Test.YtjhchfilbaeffaaDoorCvF
namespace Go.Proofs.YtjhchfilbaeffaaDoor
open Go.RowKit

theorem am_small {a : Int} (h0 : -1000000 ≤ a) (h1 : a ≤ 1000000) : Am a := by unfold Am; omega
theorem days_is (y m d k : Int) (w : World) (hL : Lg w) (h : Isd k y m d) (y0 : y ≤ 1000000) :
    Calls Tryd.prog 9 #[.int .i64 y, .int .i64 m, .int .i64 d] w fun e w' => e = .returned (.tuple #[.int .i64 k, .int .i64 0]) ∧ Below w.heap.size w w' := by
  have hb := dim_bd y m
  obtain ⟨hM, rfl⟩ := h
  have hM' := hM
  obtain ⟨a1, a2, a3, a4, a5, a6⟩ := hM'
  exact days_yes y m d w hL (am_small (by omega) (by omega)) (am_small (by omega) (by omega)) (am_small (by omega) (by omega)) (decide_eq_true hM)

set_option maxRecDepth 100000 in
set_option maxHeartbeats 2000000 in
theorem awake_any (w : World) (hL : Lg w) : Calls Tryd.prog 8 #[] w fun e w' => e = .returned (.bool true) ∧ Below w.heap.size w w' := by
  have I1 : Isd 719163 1970 1 1 := ⟨by decide, by decide⟩
  have I2 : Isd 719193 1970 1 31 := ⟨by decide, by decide⟩
  have D1 : Hid (∀ W, Lg W → Calls Tryd.prog 9 #[.int .i64 1970, .int .i64 1, .int .i64 1] W fun e w' => e = .returned (.tuple #[.int .i64 719163, .int .i64 0]) ∧ Below W.heap.size W w') :=
    Lib.hid fun W h => days_is 1970 1 1 719163 W h I1 (by omega)
  have D2 : Hid (∀ W, Lg W → Calls Tryd.prog 11 #[.int .i64 719163] W fun e w' => e = .returned (.tuple #[.int .i64 1970, .int .i64 1, .int .i64 1, .int .i64 0]) ∧ Below W.heap.size W w') :=
    Lib.hid fun W h => date_is 719163 1970 1 1 W h I1
  have D3 : Hid (∀ W, Lg W → Calls Tryd.prog 19 #[.int .i64 719193, .int .i64 1] W fun e w' => e = .returned (.tuple #[.int .i64 719221, .int .i64 0]) ∧ Below W.heap.size W w') :=
    Lib.hid fun W h => by
      have := move_yes 719193 1970 1 31 1 W h I2 (by decide) (by decide)
      rw [show mto (mah 1970 1 + 1) 31 = 719221 by decide] at this
      exact this
  have D4 : Hid (∀ W, Lg W → Calls Tryd.prog 9 #[.int .i64 2023, .int .i64 2, .int .i64 29] W fun e w' => e = .returned (.tuple #[.int .i64 0, .int .i64 1]) ∧ Below W.heap.size W w') :=
    Lib.hid fun W h => days_no 2023 2 29 W h (am_small (by omega) (by omega)) (am_small (by omega) (by omega)) (am_small (by omega) (by omega)) (by decide)
  have D5 : Hid (∀ W, Calls Tryd.prog 11 #[.int .i64 0] W fun e w' => e = .returned (.tuple #[.int .i64 0, .int .i64 0, .int .i64 0, .int .i64 1]) ∧ W = w') :=
    Lib.hid fun W => date_no 0 W (by omega)
  have D6 : Hid (∀ W, Calls Tryd.prog 17 #[.int .i64 719163] W fun e w' => e = .returned (.int .i64 3) ∧ W = w') :=
    Lib.hid fun W => by have := wday_any 719163 W (am_small (by omega) (by omega)); rw [show wday 719163 = 3 by decide] at this; exact this
  have D7 : Hid (∀ W, Calls Tryd.prog 13 #[.int .i64 2000] W fun e w' => e = .returned (.bool true) ∧ W = w') :=
    Lib.hid fun W => by have := leap_any 2000 W (am_small (by omega) (by omega)); rw [show leapB 2000 = true by decide] at this; exact this
  have D8 : Hid (∀ W, Calls Tryd.prog 13 #[.int .i64 1900] W fun e w' => e = .returned (.bool false) ∧ W = w') :=
    Lib.hid fun W => by have := leap_any 1900 W (am_small (by omega) (by omega)); rw [show leapB 1900 = false by decide] at this; exact this
  have D9 : Hid (∀ W, Lg W → Calls Tryd.prog 15 #[.int .i64 2024, .int .i64 2] W fun e w' => e = .returned (.int .i64 29) ∧ W = w') :=
    Lib.hid fun W h => by have := long_any 2024 2 W h (am_small (by omega) (by omega)); rw [show dim 2024 2 = 29 by decide] at this; exact this
  have HL := Lib.hid hL
  clear hL I1 I2
  go_enter Tryd.func8, Tryd.ntmps8
  go_wp2_with fail
  refine (D1.out w HL.out).mono ?_
  rintro e w1 ⟨rfl, hb⟩
  have HB1 := Lib.hid hb
  clear hb
  go_wp2_with fail
  refine (D2.out w1 (HL.out.below HB1.out)).mono ?_
  rintro e w2 ⟨rfl, hb⟩
  have HB2 := Lib.hid (up2 HB1.out hb)
  clear hb
  go_wp2_with fail
  refine (D3.out w2 (HL.out.below HB2.out)).mono ?_
  rintro e w3 ⟨rfl, hb⟩
  have HB3 := Lib.hid (up2 HB2.out hb)
  clear hb
  go_wp2_with fail
  refine (D4.out w3 (HL.out.below HB3.out)).mono ?_
  rintro e w4 ⟨rfl, hb⟩
  have HB4 := Lib.hid (up2 HB3.out hb)
  clear hb
  go_wp2_with fail
  refine (D5.out w4).mono ?_
  rintro e w5 ⟨rfl, rfl⟩
  go_wp2_with fail
  refine (D6.out w4).mono ?_
  rintro e w5 ⟨rfl, rfl⟩
  go_wp2_with fail
  refine (D7.out w4).mono ?_
  rintro e w5 ⟨rfl, rfl⟩
  go_wp2_with fail
  refine (D8.out w4).mono ?_
  rintro e w5 ⟨rfl, rfl⟩
  go_wp2_with fail
  refine (D9.out w4 (HL.out.below HB4.out)).mono ?_
  rintro e w5 ⟨rfl, rfl⟩
  go_wp2_with fail
  go_ret
  exact ⟨rfl, HB4.out⟩
end Go.Proofs.YtjhchfilbaeffaaDoor
