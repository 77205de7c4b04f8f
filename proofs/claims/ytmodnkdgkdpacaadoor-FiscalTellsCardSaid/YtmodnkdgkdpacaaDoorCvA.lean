/- Contracts: Leap, Long, aheadOf, isNumber, Weekday; the table of months. -/
import Derived.Test.YtmodnkdgkdpacaaDoorKit
import Derived.Test.YtmodnkdgkdpacaaDoorCvMath
namespace Go.Proofs.YtmodnkdgkdpacaaDoor
open Go.RowKit

/-- the table of months lies where it should -/
def Lg (w : World) : Prop := ∀ i : Nat, i < 12 → w.cell? ⟨0, i, none⟩ = some (.int .i64 (lon ((i : Int) + 1)))

theorem Lg.pos {w : World} (h : Lg w) : 0 < w.heap.size := World.block_lt_of_cell? _ _ (h 0 (by omega))
theorem Lg.below {W w : World} (h : Lg W) (hb : Below W.heap.size W w) : Lg w := fun i hi => kcell hb (h i hi)
theorem Lg.drew {w : World} (h : Lg w) : Lg w.drew := h
theorem Lg.drewN {w : World} (n : Nat) (h : Lg w) : Lg (w.drewN n) := fun i hi => by simpa using h i hi
theorem Lg.at {w : World} (h : Lg w) {m : Int} (h1 : 1 ≤ m) (h2 : m ≤ 12) : w.cell? ⟨0, (m - 1).toNat, none⟩ = some (.int .i64 (lon m)) := by
  have := h (m - 1).toNat (by omega)
  rw [show (((m - 1).toNat : Nat) : Int) + 1 = m by omega] at this
  exact this


set_option maxHeartbeats 400000 in
theorem leap_low (y : Int) (w : World) (h : y < 1) :
    Calls Tryd.prog 32 #[.int .i64 y] w fun e w' => e = .returned (.bool false) ∧ w = w' := by
  go_enter Tryd.func32, Tryd.ntmps32
  go_wp2
  go_ret
  exact ⟨rfl, rfl⟩
set_option maxHeartbeats 400000 in
theorem leap_no4 (y : Int) (w : World) (h : 1 ≤ y) (h2 : y ≤ 9223372036854775807) (h4 : (y % 4 != 0) = true) :
    Calls Tryd.prog 32 #[.int .i64 y] w fun e w' => e = .returned (.bool false) ∧ w = w' := by
  go_enter Tryd.func32, Tryd.ntmps32
  go_wp2
  go_ret
  exact ⟨rfl, rfl⟩
set_option maxHeartbeats 400000 in
theorem leap_no100 (y : Int) (w : World) (h : 1 ≤ y) (h2 : y ≤ 9223372036854775807) (h4 : (y % 4 != 0) = false) (h5 : (y % 100 != 0) = true) :
    Calls Tryd.prog 32 #[.int .i64 y] w fun e w' => e = .returned (.bool true) ∧ w = w' := by
  go_enter Tryd.func32, Tryd.ntmps32
  go_wp2
  go_ret
  exact ⟨rfl, rfl⟩
set_option maxHeartbeats 400000 in
theorem leap_400 (y : Int) (w : World) (b : Bool) (h : 1 ≤ y) (h2 : y ≤ 9223372036854775807) (h4 : (y % 4 != 0) = false) (h5 : (y % 100 != 0) = false) (h6 : (y % 400 == 0) = b) :
    Calls Tryd.prog 32 #[.int .i64 y] w fun e w' => e = .returned (.bool b) ∧ w = w' := by
  go_enter Tryd.func32, Tryd.ntmps32
  go_wp2
  go_ret
  exact ⟨rfl, rfl⟩
theorem leap_any (y : Int) (w : World) (h : Am y) :
    Calls Tryd.prog 32 #[.int .i64 y] w fun e w' => e = .returned (.bool (leapB y)) ∧ w = w' := by
  obtain ⟨_, h2⟩ := h
  by_cases a : y < 1
  · rw [show leapB y = false by simp [leapB]; omega]; exact leap_low y w a
  by_cases b : y % 4 = 0
  · by_cases c : y % 100 = 0
    · by_cases d : y % 400 = 0
      · rw [show leapB y = true by simp [leapB]; omega]; exact leap_400 y w true (by omega) h2 (by simp; omega) (by simp; omega) (by simp; omega)
      · rw [show leapB y = false by simp [leapB]; omega]; exact leap_400 y w false (by omega) h2 (by simp; omega) (by simp; omega) (by simp; omega)
    · rw [show leapB y = true by simp [leapB]; omega]; exact leap_no100 y w (by omega) h2 (by simp; omega) (by simp; omega)
  · rw [show leapB y = false by simp [leapB]; omega]; exact leap_no4 y w (by omega) h2 (by simp; omega)

set_option maxHeartbeats 400000 in
theorem ahead_any (y : Int) (w : World) (h : 1 ≤ y) (h2 : y ≤ 2738) :
    Calls Tryd.prog 37 #[.int .i64 y] w fun e w' => e = .returned (.int .i64 (dby y)) ∧ w = w' := by
  unfold dby
  go_enter Tryd.func37, Tryd.ntmps37
  go_wp2
  go_ret
  exact ⟨rfl, rfl⟩

set_option maxHeartbeats 400000 in
theorem isNum_any (n : Int) (w : World) :
    Calls Tryd.prog 28 #[.int .i64 n] w fun e w' => e = .returned (.bool (decide (1 ≤ n ∧ n ≤ 999668))) ∧ w = w' := by
  by_cases h : 1 ≤ n
  · by_cases g : n ≤ 999668
    · rw [show decide (1 ≤ n ∧ n ≤ 999668) = true by simp; omega]
      go_enter Tryd.func28, Tryd.ntmps28
      go_wp2
      go_ret
      exact ⟨rfl, rfl⟩
    · rw [show decide (1 ≤ n ∧ n ≤ 999668) = false by simp; omega]
      go_enter Tryd.func28, Tryd.ntmps28
      go_wp2
      go_ret
      exact ⟨rfl, rfl⟩
  · rw [show decide (1 ≤ n ∧ n ≤ 999668) = false by simp; omega]
    go_enter Tryd.func28, Tryd.ntmps28
    go_wp2
    go_ret
    exact ⟨rfl, rfl⟩

def wday (n : Int) : Int := if n < 1 then -1 else (n - 1) % 7
set_option maxHeartbeats 400000 in
theorem wday_any (n : Int) (w : World) (h : Am n) :
    Calls Tryd.prog 20 #[.int .i64 n] w fun e w' => e = .returned (.int .i64 (wday n)) ∧ w = w' := by
  obtain ⟨_, h2⟩ := h
  by_cases g : n < 1
  · rw [show wday n = -1 by unfold wday; rw [if_pos g]]
    go_enter Tryd.func20, Tryd.ntmps20
    go_wp2
    go_ret
    exact ⟨rfl, rfl⟩
  · rw [show wday n = (n - 1) % 7 by unfold wday; rw [if_neg g]]
    have g' : 1 ≤ n := by omega
    go_enter Tryd.func20, Tryd.ntmps20
    go_wp2
    go_ret
    exact ⟨rfl, rfl⟩

set_option maxHeartbeats 400000 in
theorem long_none (y m : Int) (w : World) (h : y < 1 ∨ m < 1 ∨ 12 < m) :
    Calls Tryd.prog 19 #[.int .i64 y, .int .i64 m] w fun e w' => e = .returned (.int .i64 0) ∧ w = w' := by
  by_cases a : y < 1
  · go_enter Tryd.func19, Tryd.ntmps19
    go_wp2
    go_ret
    exact ⟨rfl, rfl⟩
  by_cases b : m < 1
  · go_enter Tryd.func19, Tryd.ntmps19
    go_wp2
    go_ret
    exact ⟨rfl, rfl⟩
  have c : 12 < m := by omega
  clear h
  go_enter Tryd.func19, Tryd.ntmps19
  go_wp2
  go_ret
  exact ⟨rfl, rfl⟩
set_option maxHeartbeats 400000 in
theorem long_leap (y : Int) (w : World) (hL : Lg w) (h0 : 1 ≤ y) (h1 : y ≤ 9223372036854775807) (hl : leapB y = true) :
    Calls Tryd.prog 19 #[.int .i64 y, .int .i64 2] w fun e w' => e = .returned (.int .i64 29) ∧ w = w' := by
  have hc : w.cell? ⟨0, 1, none⟩ = some (.int .i64 28) := hL 1 (by omega)
  clear hL
  go_enter Tryd.func19, Tryd.ntmps19
  go_wp2_with (go_at_call 32; refine (leap_any y _ ⟨by omega, h1⟩).mono ?_; rintro e w' ⟨rfl, rfl⟩)
  go_ret
  exact ⟨rfl, rfl⟩
set_option maxHeartbeats 400000 in
theorem long_two (y : Int) (w : World) (hL : Lg w) (h0 : 1 ≤ y) (h1 : y ≤ 9223372036854775807) (hl : leapB y = false) :
    Calls Tryd.prog 19 #[.int .i64 y, .int .i64 2] w fun e w' => e = .returned (.int .i64 28) ∧ w = w' := by
  have hc : w.cell? ⟨0, 1, none⟩ = some (.int .i64 28) := hL 1 (by omega)
  clear hL
  go_enter Tryd.func19, Tryd.ntmps19
  go_wp2_with (go_at_call 32; refine (leap_any y _ ⟨by omega, h1⟩).mono ?_; rintro e w' ⟨rfl, rfl⟩)
  go_ret
  exact ⟨rfl, rfl⟩
set_option maxHeartbeats 400000 in
theorem long_else (y : Int) (k : Nat) (w : World) (hL : Lg w) (h0 : 1 ≤ y) (h1 : y ≤ 9223372036854775807) (h3 : k < 12) (h4 : (((k : Int) + 1) == 2) = false) :
    Calls Tryd.prog 19 #[.int .i64 y, .int .i64 ((k : Int) + 1)] w fun e w' => e = .returned (.int .i64 (lon ((k : Int) + 1))) ∧ w = w' := by
  have hc := hL k h3
  clear hL
  have b0 : ((k : Int) + 1) - 1 = k := by omega
  go_enter Tryd.func19, Tryd.ntmps19
  go_wp2
  go_ret
  exact ⟨rfl, rfl⟩
theorem long_any (y m : Int) (w : World) (hL : Lg w) (hy : Am y) :
    Calls Tryd.prog 19 #[.int .i64 y, .int .i64 m] w fun e w' => e = .returned (.int .i64 (dim y m)) ∧ w = w' := by
  by_cases h : y < 1 ∨ m < 1 ∨ 12 < m
  · rw [dim_none h]; exact long_none y m w h
  · by_cases h2 : m = 2
    · subst h2
      cases hl : leapB y
      · rw [dim_some (by omega) (by omega) (by omega) (by simp [hl])]; exact long_two y w hL (by omega) hy.2 hl
      · rw [dim_leap (by omega) hl]; exact long_leap y w hL (by omega) hy.2 hl
    · rw [dim_some (by omega) (by omega) (by omega) (by omega)]; have g := long_else y (m - 1).toNat w hL (by omega) hy.2 (by omega) (by simp; omega)
      rw [show (((m - 1).toNat : Nat) : Int) + 1 = m by omega] at g
      exact g
end Go.Proofs.YtmodnkdgkdpacaaDoor
