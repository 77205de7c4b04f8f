/- Contracts of the document's answer: Leap, Weekday, Long, ahead, Days. -/
import Derived.Test.YtmodnkdgkdpacaaDoorCvF
namespace Go.Proofs.YtmodnkdgkdpacaaDoor
open Go.RowKit

set_option maxHeartbeats 400000 in
theorem rleap_low (y : Int) (w : World) (h : y < 1) :
    Calls Tryd.prog 35 #[.int .i64 y] w fun e w' => e = .returned (.bool false) ∧ w = w' := by
  go_enter Tryd.func35, Tryd.ntmps35
  go_wp2
  go_ret
  exact ⟨rfl, rfl⟩
set_option maxHeartbeats 400000 in
theorem rleap_no4 (y : Int) (w : World) (h : 1 ≤ y) (h2 : y ≤ 9223372036854775807) (h4 : (y % 4 != 0) = true) :
    Calls Tryd.prog 35 #[.int .i64 y] w fun e w' => e = .returned (.bool false) ∧ w = w' := by
  go_enter Tryd.func35, Tryd.ntmps35
  go_wp2
  go_ret
  exact ⟨rfl, rfl⟩
set_option maxHeartbeats 400000 in
theorem rleap_no100 (y : Int) (w : World) (h : 1 ≤ y) (h2 : y ≤ 9223372036854775807) (h4 : (y % 4 != 0) = false) (h5 : (y % 100 != 0) = true) :
    Calls Tryd.prog 35 #[.int .i64 y] w fun e w' => e = .returned (.bool true) ∧ w = w' := by
  go_enter Tryd.func35, Tryd.ntmps35
  go_wp2
  go_ret
  exact ⟨rfl, rfl⟩
set_option maxHeartbeats 400000 in
theorem rleap_400 (y : Int) (w : World) (b : Bool) (h : 1 ≤ y) (h2 : y ≤ 9223372036854775807) (h4 : (y % 4 != 0) = false) (h5 : (y % 100 != 0) = false) (h6 : (y % 400 == 0) = b) :
    Calls Tryd.prog 35 #[.int .i64 y] w fun e w' => e = .returned (.bool b) ∧ w = w' := by
  go_enter Tryd.func35, Tryd.ntmps35
  go_wp2
  go_ret
  exact ⟨rfl, rfl⟩
theorem rleap_any (y : Int) (w : World) (h : Am y) :
    Calls Tryd.prog 35 #[.int .i64 y] w fun e w' => e = .returned (.bool (leapB y)) ∧ w = w' := by
  obtain ⟨_, h2⟩ := h
  by_cases a : y < 1
  · rw [show leapB y = false by simp [leapB]; omega]; exact rleap_low y w a
  by_cases b : y % 4 = 0
  · by_cases c : y % 100 = 0
    · by_cases d : y % 400 = 0
      · rw [show leapB y = true by simp [leapB]; omega]; exact rleap_400 y w true (by omega) h2 (by simp; omega) (by simp; omega) (by simp; omega)
      · rw [show leapB y = false by simp [leapB]; omega]; exact rleap_400 y w false (by omega) h2 (by simp; omega) (by simp; omega) (by simp; omega)
    · rw [show leapB y = true by simp [leapB]; omega]; exact rleap_no100 y w (by omega) h2 (by simp; omega) (by simp; omega)
  · rw [show leapB y = false by simp [leapB]; omega]; exact rleap_no4 y w (by omega) h2 (by simp; omega)

theorem rlong_none (y m : Int) (w : World) (h : y < 1 ∨ m < 1 ∨ 12 < m) :
    Calls Tryd.prog 27 #[.int .i64 y, .int .i64 m] w fun e w' => e = .returned (.int .i64 0) ∧ Below w.heap.size w w' := by
  by_cases a : y < 1
  · go_enter Tryd.func27, Tryd.ntmps27
    go_wp2
    go_ret
    exact ⟨rfl, Below.refl _ _⟩
  by_cases b : m < 1
  · go_enter Tryd.func27, Tryd.ntmps27
    go_wp2
    go_ret
    exact ⟨rfl, Below.refl _ _⟩
  have c : 12 < m := by omega
  clear h
  go_enter Tryd.func27, Tryd.ntmps27
  go_wp2
  go_ret
  exact ⟨rfl, Below.refl _ _⟩
set_option maxHeartbeats 1000000 in
theorem rlong_1 (y : Int) (w : World) (h0 : 1 ≤ y) :
    Calls Tryd.prog 27 #[.int .i64 y, .int .i64 1] w fun e w' => e = .returned (.int .i64 31) ∧ Below w.heap.size w w' := by
  go_enter Tryd.func27, Tryd.ntmps27
  go_wp2_with fail
  go_ret
  exact ⟨rfl, by repeat (first | exact Below.refl _ _ | apply Below.drew | (refine Below.setCell ?_ (by simp) _) | (refine Below.alloc ?_ (by simp) _))⟩
set_option maxHeartbeats 1000000 in
theorem rlong_2true (y : Int) (w : World) (h0 : 1 ≤ y) (h1 : Am y) (hl : leapB y = true) :
    Calls Tryd.prog 27 #[.int .i64 y, .int .i64 2] w fun e w' => e = .returned (.int .i64 29) ∧ Below w.heap.size w w' := by
  have H1 := Lib.hid h1
  clear h1
  go_enter Tryd.func27, Tryd.ntmps27
  go_wp2_with (go_at_call 35; (with_reducible refine (rleap_any y _ H1.out).mono ?_); rintro e w' ⟨rfl, rfl⟩)
  go_ret
  exact ⟨rfl, by repeat (first | exact Below.refl _ _ | apply Below.drew | (refine Below.setCell ?_ (by simp) _) | (refine Below.alloc ?_ (by simp) _))⟩
set_option maxHeartbeats 1000000 in
theorem rlong_2false (y : Int) (w : World) (h0 : 1 ≤ y) (h1 : Am y) (hl : leapB y = false) :
    Calls Tryd.prog 27 #[.int .i64 y, .int .i64 2] w fun e w' => e = .returned (.int .i64 28) ∧ Below w.heap.size w w' := by
  have H1 := Lib.hid h1
  clear h1
  go_enter Tryd.func27, Tryd.ntmps27
  go_wp2_with (go_at_call 35; (with_reducible refine (rleap_any y _ H1.out).mono ?_); rintro e w' ⟨rfl, rfl⟩)
  go_ret
  exact ⟨rfl, by repeat (first | exact Below.refl _ _ | apply Below.drew | (refine Below.setCell ?_ (by simp) _) | (refine Below.alloc ?_ (by simp) _))⟩
set_option maxHeartbeats 1000000 in
theorem rlong_3 (y : Int) (w : World) (h0 : 1 ≤ y) :
    Calls Tryd.prog 27 #[.int .i64 y, .int .i64 3] w fun e w' => e = .returned (.int .i64 31) ∧ Below w.heap.size w w' := by
  go_enter Tryd.func27, Tryd.ntmps27
  go_wp2_with fail
  go_ret
  exact ⟨rfl, by repeat (first | exact Below.refl _ _ | apply Below.drew | (refine Below.setCell ?_ (by simp) _) | (refine Below.alloc ?_ (by simp) _))⟩
set_option maxHeartbeats 1000000 in
theorem rlong_4 (y : Int) (w : World) (h0 : 1 ≤ y) :
    Calls Tryd.prog 27 #[.int .i64 y, .int .i64 4] w fun e w' => e = .returned (.int .i64 30) ∧ Below w.heap.size w w' := by
  go_enter Tryd.func27, Tryd.ntmps27
  go_wp2_with fail
  go_ret
  exact ⟨rfl, by repeat (first | exact Below.refl _ _ | apply Below.drew | (refine Below.setCell ?_ (by simp) _) | (refine Below.alloc ?_ (by simp) _))⟩
set_option maxHeartbeats 1000000 in
theorem rlong_5 (y : Int) (w : World) (h0 : 1 ≤ y) :
    Calls Tryd.prog 27 #[.int .i64 y, .int .i64 5] w fun e w' => e = .returned (.int .i64 31) ∧ Below w.heap.size w w' := by
  go_enter Tryd.func27, Tryd.ntmps27
  go_wp2_with fail
  go_ret
  exact ⟨rfl, by repeat (first | exact Below.refl _ _ | apply Below.drew | (refine Below.setCell ?_ (by simp) _) | (refine Below.alloc ?_ (by simp) _))⟩
set_option maxHeartbeats 1000000 in
theorem rlong_6 (y : Int) (w : World) (h0 : 1 ≤ y) :
    Calls Tryd.prog 27 #[.int .i64 y, .int .i64 6] w fun e w' => e = .returned (.int .i64 30) ∧ Below w.heap.size w w' := by
  go_enter Tryd.func27, Tryd.ntmps27
  go_wp2_with fail
  go_ret
  exact ⟨rfl, by repeat (first | exact Below.refl _ _ | apply Below.drew | (refine Below.setCell ?_ (by simp) _) | (refine Below.alloc ?_ (by simp) _))⟩
set_option maxHeartbeats 1000000 in
theorem rlong_7 (y : Int) (w : World) (h0 : 1 ≤ y) :
    Calls Tryd.prog 27 #[.int .i64 y, .int .i64 7] w fun e w' => e = .returned (.int .i64 31) ∧ Below w.heap.size w w' := by
  go_enter Tryd.func27, Tryd.ntmps27
  go_wp2_with fail
  go_ret
  exact ⟨rfl, by repeat (first | exact Below.refl _ _ | apply Below.drew | (refine Below.setCell ?_ (by simp) _) | (refine Below.alloc ?_ (by simp) _))⟩
set_option maxHeartbeats 1000000 in
theorem rlong_8 (y : Int) (w : World) (h0 : 1 ≤ y) :
    Calls Tryd.prog 27 #[.int .i64 y, .int .i64 8] w fun e w' => e = .returned (.int .i64 31) ∧ Below w.heap.size w w' := by
  go_enter Tryd.func27, Tryd.ntmps27
  go_wp2_with fail
  go_ret
  exact ⟨rfl, by repeat (first | exact Below.refl _ _ | apply Below.drew | (refine Below.setCell ?_ (by simp) _) | (refine Below.alloc ?_ (by simp) _))⟩
set_option maxHeartbeats 1000000 in
theorem rlong_9 (y : Int) (w : World) (h0 : 1 ≤ y) :
    Calls Tryd.prog 27 #[.int .i64 y, .int .i64 9] w fun e w' => e = .returned (.int .i64 30) ∧ Below w.heap.size w w' := by
  go_enter Tryd.func27, Tryd.ntmps27
  go_wp2_with fail
  go_ret
  exact ⟨rfl, by repeat (first | exact Below.refl _ _ | apply Below.drew | (refine Below.setCell ?_ (by simp) _) | (refine Below.alloc ?_ (by simp) _))⟩
set_option maxHeartbeats 1000000 in
theorem rlong_10 (y : Int) (w : World) (h0 : 1 ≤ y) :
    Calls Tryd.prog 27 #[.int .i64 y, .int .i64 10] w fun e w' => e = .returned (.int .i64 31) ∧ Below w.heap.size w w' := by
  go_enter Tryd.func27, Tryd.ntmps27
  go_wp2_with fail
  go_ret
  exact ⟨rfl, by repeat (first | exact Below.refl _ _ | apply Below.drew | (refine Below.setCell ?_ (by simp) _) | (refine Below.alloc ?_ (by simp) _))⟩
set_option maxHeartbeats 1000000 in
theorem rlong_11 (y : Int) (w : World) (h0 : 1 ≤ y) :
    Calls Tryd.prog 27 #[.int .i64 y, .int .i64 11] w fun e w' => e = .returned (.int .i64 30) ∧ Below w.heap.size w w' := by
  go_enter Tryd.func27, Tryd.ntmps27
  go_wp2_with fail
  go_ret
  exact ⟨rfl, by repeat (first | exact Below.refl _ _ | apply Below.drew | (refine Below.setCell ?_ (by simp) _) | (refine Below.alloc ?_ (by simp) _))⟩
set_option maxHeartbeats 1000000 in
theorem rlong_12 (y : Int) (w : World) (h0 : 1 ≤ y) :
    Calls Tryd.prog 27 #[.int .i64 y, .int .i64 12] w fun e w' => e = .returned (.int .i64 31) ∧ Below w.heap.size w w' := by
  go_enter Tryd.func27, Tryd.ntmps27
  go_wp2_with fail
  go_ret
  exact ⟨rfl, by repeat (first | exact Below.refl _ _ | apply Below.drew | (refine Below.setCell ?_ (by simp) _) | (refine Below.alloc ?_ (by simp) _))⟩
theorem rlong_any (y m : Int) (w : World) (hy : Am y) :
    Calls Tryd.prog 27 #[.int .i64 y, .int .i64 m] w fun e w' => e = .returned (.int .i64 (dim y m)) ∧ Below w.heap.size w w' := by
  by_cases h : y < 1 ∨ m < 1 ∨ 12 < m
  · rw [dim_none h]; exact rlong_none y m w h
  have y1 : 1 ≤ y := by omega
  rcases months (m := m) (by omega) (by omega) with rfl | rfl | rfl | rfl | rfl | rfl | rfl | rfl | rfl | rfl | rfl | rfl
  · rw [dim_some y1 (by omega) (by omega) (by omega)]; exact rlong_1 y w y1
  · cases hl : leapB y
    · rw [dim_some y1 (by omega) (by omega) (by simp [hl])]; exact rlong_2false y w y1 hy hl
    · rw [dim_leap y1 hl]; exact rlong_2true y w y1 hy hl
  · rw [dim_some y1 (by omega) (by omega) (by omega)]; exact rlong_3 y w y1
  · rw [dim_some y1 (by omega) (by omega) (by omega)]; exact rlong_4 y w y1
  · rw [dim_some y1 (by omega) (by omega) (by omega)]; exact rlong_5 y w y1
  · rw [dim_some y1 (by omega) (by omega) (by omega)]; exact rlong_6 y w y1
  · rw [dim_some y1 (by omega) (by omega) (by omega)]; exact rlong_7 y w y1
  · rw [dim_some y1 (by omega) (by omega) (by omega)]; exact rlong_8 y w y1
  · rw [dim_some y1 (by omega) (by omega) (by omega)]; exact rlong_9 y w y1
  · rw [dim_some y1 (by omega) (by omega) (by omega)]; exact rlong_10 y w y1
  · rw [dim_some y1 (by omega) (by omega) (by omega)]; exact rlong_11 y w y1
  · rw [dim_some y1 (by omega) (by omega) (by omega)]; exact rlong_12 y w y1

end Go.Proofs.YtmodnkdgkdpacaaDoor
