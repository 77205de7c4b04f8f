/- Contracts of the document's answer: Days, Date. -/
import Derived.Test.YtmodnkdgkdpacaaDoorRfA
namespace Go.Proofs.YtmodnkdgkdpacaaDoor
open Go.RowKit

theorem rdate_no (n : Int) (w : World) (h : ¬ (1 ≤ n ∧ n ≤ 999668)) :
    Calls Tryd.prog 23 #[.int .i64 n] w fun e w' => e = .returned (.tuple #[.int .i64 0, .int .i64 0, .int .i64 0, .int .i64 1]) ∧ w = w' := by
  by_cases h1 : n < 1
  · clear h
    go_enter Tryd.func23, Tryd.ntmps23
    go_wp2_with fail
    exact bodyPost_ret (v := .tuple #[.int .i64 0, .int .i64 0, .int .i64 0, .int .i64 1]) (by simp [results, Tryd.results23, go_sem]) rfl ⟨rfl, rfl⟩
  · have h2 : 999668 < n := by omega
    clear h
    go_enter Tryd.func23, Tryd.ntmps23
    go_wp2_with fail
    exact bodyPost_ret (v := .tuple #[.int .i64 0, .int .i64 0, .int .i64 0, .int .i64 1]) (by simp [results, Tryd.results23, go_sem]) rfl ⟨rfl, rfl⟩

set_option maxHeartbeats 4000000 in
theorem rdate_yes (n : Int) (w : World) (h0 : 1 ≤ n) (h1 : n ≤ 999668) :
    Calls Tryd.prog 23 #[.int .i64 n] w (Dated4 w n) := by
  have all := Lib.hid dby_all
  go_enter Tryd.func23, Tryd.ntmps23
  go_wp2_with fail
  go_loopw [6, 7, 8] (fun a b _ wr => ∃ y : Int, 1 ≤ y ∧ y ≤ 2737 ∧ 1 ≤ n - dby y ∧ a = .int .i64 y ∧ b = .int .i64 (n - dby y) ∧ Below w.heap.size w wr) (fun a _ _ _ => (2738 - intOf a).toNat)
  case atStart => exact ⟨1, by omega, by omega, by rw [dby_one]; omega, rfl, by rw [dby_one]; simp, Below.refl _ _⟩
  case round =>
    obtain ⟨y, y1, y2, b1, rfl, rfl, hb⟩ := hrel
    have HB := Lib.hid hb
    clear hb
    have bb := dby_bd y1 (by omega)
    have nx := dby_step y1
    have n13 := dby_next y1
    by_cases hle : n ≤ dby (y + 1)
    · have N13 : Hid (n ≤ dby y + cum y 13) := Lib.hid (by rw [← n13]; exact hle)
      have NX := Lib.hid nx
      cases hl : leapB y
      · have e : Hid (dby (y + 1) = dby y + 365) := Lib.hid (by rw [nx, hl]; simp)
        have g : n - dby y ≤ 365 := by have := e.out; omega
        clear nx n13 hle
        go_wp2_with (go_at_call 35; (with_reducible refine (rleap_any y _ (am_small (by omega) (by omega))).mono ?_); rintro e w' ⟨rfl, rfl⟩)
        obtain ⟨wo, hwo⟩ : ∃ wo : World, wo = wr := ⟨_, rfl⟩
        rw [← hwo] at HB ⊢
        clear hwo
        go_loopw [7, 9] (fun b a wr => ∃ m : Int, 1 ≤ m ∧ m ≤ 12 ∧ 1 ≤ n - dby y - cum y m ∧ a = .int .i64 m ∧ b = .int .i64 (n - dby y - cum y m) ∧ Below w.heap.size w wr) (fun _ a _ => (13 - intOf a).toNat)
        case atStart => exact ⟨1, by omega, by omega, by rw [cum_one]; omega, rfl, by rw [cum_one]; simp, HB.out⟩
        case round =>
          obtain ⟨m, m1, m2, b2, rfl, rfl, hb⟩ := hrel
          have HB2 := Lib.hid hb
          clear hb
          have cb := cum_bd (y := y) m1 (by omega)
          have db := dim_bd y m
          have nxm := cum_next y1 m1 m2
          have HXM := Lib.hid nxm
          by_cases hlt : dim y m < n - dby y - cum y m
          · have m3 : m < 12 := by
              by_cases q : m < 12
              · exact q
              · exfalso
                obtain rfl : m = 12 := by omega
                rw [show (12 : Int) + 1 = 13 by omega] at nxm
                have := N13.out
                omega
            clear nxm
            go_wp2_with fail
            refine (rlong_any y m wr (am_small (by omega) (by omega))).mono ?_
            rintro e w2 ⟨rfl, hb⟩
            have HB3 := Lib.hid (up2 HB2.out hb)
            clear hb
            go_wp2_with fail
            refine (rlong_any y m w2 (am_small (by omega) (by omega))).mono ?_
            rintro e w3 ⟨rfl, hb⟩
            have HB4 := Lib.hid (up2 HB3.out hb)
            clear hb
            go_wp2_with fail
            go_roundw
            case rel => exact ⟨m + 1, by omega, by omega, by rw [HXM.out]; omega, by go_num, by rw [HXM.out]; go_num, HB4.out⟩
            case measure => simp [intOf]; omega
          · have hle2 : n - dby y - cum y m ≤ dim y m := by omega
            clear nxm
            go_wp2_with fail
            refine (rlong_any y m wr (am_small (by omega) (by omega))).mono ?_
            rintro e w2 ⟨rfl, hb⟩
            have HB3 := Lib.hid (up2 HB2.out hb)
            clear hb
            go_wp2_with fail
            exact bodyPost_ret (v := .tuple #[.int .i64 y, .int .i64 m, .int .i64 (n - dby y - cum y m), .int .i64 0]) (by simp [results, Tryd.results23, go_sem]) rfl ⟨y, m, _, rfl, ⟨⟨y1, y2, m1, m2, b2, hle2⟩, by unfold num; omega⟩, HB3.out⟩
      · have e : Hid (dby (y + 1) = dby y + 366) := Lib.hid (by rw [nx, hl]; simp)
        have g : n - dby y ≤ 366 := by have := e.out; omega
        clear nx n13 hle
        go_wp2_with (go_at_call 35; (with_reducible refine (rleap_any y _ (am_small (by omega) (by omega))).mono ?_); rintro e w' ⟨rfl, rfl⟩)
        obtain ⟨wo, hwo⟩ : ∃ wo : World, wo = wr := ⟨_, rfl⟩
        rw [← hwo] at HB ⊢
        clear hwo
        go_loopw [7, 9] (fun b a wr => ∃ m : Int, 1 ≤ m ∧ m ≤ 12 ∧ 1 ≤ n - dby y - cum y m ∧ a = .int .i64 m ∧ b = .int .i64 (n - dby y - cum y m) ∧ Below w.heap.size w wr) (fun _ a _ => (13 - intOf a).toNat)
        case atStart => exact ⟨1, by omega, by omega, by rw [cum_one]; omega, rfl, by rw [cum_one]; simp, HB.out⟩
        case round =>
          obtain ⟨m, m1, m2, b2, rfl, rfl, hb⟩ := hrel
          have HB2 := Lib.hid hb
          clear hb
          have cb := cum_bd (y := y) m1 (by omega)
          have db := dim_bd y m
          have nxm := cum_next y1 m1 m2
          have HXM := Lib.hid nxm
          by_cases hlt : dim y m < n - dby y - cum y m
          · have m3 : m < 12 := by
              by_cases q : m < 12
              · exact q
              · exfalso
                obtain rfl : m = 12 := by omega
                rw [show (12 : Int) + 1 = 13 by omega] at nxm
                have := N13.out
                omega
            clear nxm
            go_wp2_with fail
            refine (rlong_any y m wr (am_small (by omega) (by omega))).mono ?_
            rintro e w2 ⟨rfl, hb⟩
            have HB3 := Lib.hid (up2 HB2.out hb)
            clear hb
            go_wp2_with fail
            refine (rlong_any y m w2 (am_small (by omega) (by omega))).mono ?_
            rintro e w3 ⟨rfl, hb⟩
            have HB4 := Lib.hid (up2 HB3.out hb)
            clear hb
            go_wp2_with fail
            go_roundw
            case rel => exact ⟨m + 1, by omega, by omega, by rw [HXM.out]; omega, by go_num, by rw [HXM.out]; go_num, HB4.out⟩
            case measure => simp [intOf]; omega
          · have hle2 : n - dby y - cum y m ≤ dim y m := by omega
            clear nxm
            go_wp2_with fail
            refine (rlong_any y m wr (am_small (by omega) (by omega))).mono ?_
            rintro e w2 ⟨rfl, hb⟩
            have HB3 := Lib.hid (up2 HB2.out hb)
            clear hb
            go_wp2_with fail
            exact bodyPost_ret (v := .tuple #[.int .i64 y, .int .i64 m, .int .i64 (n - dby y - cum y m), .int .i64 0]) (by simp [results, Tryd.results23, go_sem]) rfl ⟨y, m, _, rfl, ⟨⟨y1, y2, m1, m2, b2, hle2⟩, by unfold num; omega⟩, HB3.out⟩
    · have lt : y < 2737 := by
        by_cases q : y < 2737
        · exact q
        · exfalso
          obtain rfl : y = 2737 := by omega
          have := all.out
          rw [show (2737 : Int) + 1 = 2738 by omega, this] at hle
          omega
      have NX := Lib.hid nx
      cases hl : leapB y
      · have e : Hid (dby (y + 1) = dby y + 365) := Lib.hid (by rw [nx, hl]; simp)
        have g : ¬ n - dby y ≤ 365 := by have := e.out; omega
        clear nx n13 hle
        go_wp2_with (go_at_call 35; (with_reducible refine (rleap_any y _ (am_small (by omega) (by omega))).mono ?_); rintro e w' ⟨rfl, rfl⟩)
        go_roundw
        case rel => exact ⟨y + 1, by omega, by omega, by rw [e.out]; omega, by go_num, by rw [e.out]; go_num, HB.out⟩
        case measure => simp [intOf]; omega
      · have e : Hid (dby (y + 1) = dby y + 366) := Lib.hid (by rw [nx, hl]; simp)
        have g : ¬ n - dby y ≤ 366 := by have := e.out; omega
        clear nx n13 hle
        go_wp2_with (go_at_call 35; (with_reducible refine (rleap_any y _ (am_small (by omega) (by omega))).mono ?_); rintro e w' ⟨rfl, rfl⟩)
        go_roundw
        case rel => exact ⟨y + 1, by omega, by omega, by rw [e.out]; omega, by go_num, by rw [e.out]; go_num, HB.out⟩
        case measure => simp [intOf]; omega
end Go.Proofs.YtmodnkdgkdpacaaDoor
