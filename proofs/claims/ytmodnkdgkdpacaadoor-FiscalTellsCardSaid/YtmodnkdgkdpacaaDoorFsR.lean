/- Contracts of the document's answer: Days, Check, First, Last, Of. -/
import Derived.Test.YtmodnkdgkdpacaaDoorFsC
import Derived.Test.YtmodnkdgkdpacaaDoorRfC
namespace Go.Proofs.YtmodnkdgkdpacaaDoor
open Go.RowKit

theorem rfd_low (K F p : Int) (h : p < 0) : Tells 16 #[.agg #[.int .i64 K, .int .i64 F], .int .i64 p] (.int .i64 0) := by
  intro w hL
  have HL := Lib.hid hL
  clear hL
  go_enter Tryd.func16, Tryd.ntmps16
  go_wp2_with fail
  go_ret
  exact ⟨rfl, boxed _ _⟩
theorem rfd_high (K F p : Int) (h0 : 0 ≤ p) (h : 240 ≤ p) : Tells 16 #[.agg #[.int .i64 K, .int .i64 F], .int .i64 p] (.int .i64 0) := by
  intro w hL
  have HL := Lib.hid hL
  clear hL
  go_enter Tryd.func16, Tryd.ntmps16
  go_wp2_with fail
  go_ret
  exact ⟨rfl, boxed _ _⟩
theorem rfd_none {K F p : Int} (h : ¬ (0 ≤ p ∧ p < 240)) : Tells 16 #[.agg #[.int .i64 K, .int .i64 F], .int .i64 p] (.int .i64 0) := by
  by_cases h0 : p < 0
  · exact rfd_low K F p h0
  · exact rfd_high K F p (by omega) (by omega)
set_option maxHeartbeats 1000000 in
theorem rfd_months (a p : Int) (a0 : 0 ≤ a) (a1 : a ≤ 32843) (p0 : 0 ≤ p) (p1 : p < 240) : Tells 16 #[.agg #[.int .i64 0, .int .i64 (mnum a)], .int .i64 p] (.int .i64 (mdim (a + p))) := by
  intro w hL
  have HI := Lib.hid (mnum_may a0 a1)
  obtain ⟨A, hA⟩ : ∃ A, A = mnum a := ⟨_, rfl⟩
  obtain ⟨Y, hY⟩ : ∃ Y, Y = a / 12 + 1 := ⟨_, rfl⟩
  obtain ⟨M, hM⟩ : ∃ M, M = a % 12 + 1 := ⟨_, rfl⟩
  have HD : Hid (mdim (a + p) = dim ((12 * Y + M - 1 + p) / 12) ((12 * Y + M - 1 + p) % 12 + 1)) := Lib.hid (by
    unfold mdim; rw [show (12 * Y + M - 1 + p) / 12 = (a + p) / 12 + 1 by omega, show (12 * Y + M - 1 + p) % 12 = (a + p) % 12 by omega])
  have y1 : 1 ≤ Y := by omega
  have y2 : Y ≤ 3000 := by omega
  have m1 : 1 ≤ M := by omega
  have m2 : M ≤ 12 := by omega
  rw [← hA, ← hY, ← hM] at HI
  rw [← hA, HD.out]
  clear hA hY hM hL
  go_enter Tryd.func16, Tryd.ntmps16
  go_wp2_with fail
  refine (rdate_is A Y M 1 _ HI.out).mono ?_
  rintro e w1 ⟨rfl, hb⟩
  have HB := Lib.hid (up2 (boxed _ _) hb)
  clear hb
  go_wp2_with fail
  refine (rlong_any _ _ w1 (am_small (by omega) (by omega))).mono ?_
  rintro e w2 ⟨rfl, hb⟩
  have HB2 := Lib.hid (up2 HB.out hb)
  clear hb
  go_wp2_with fail
  go_ret
  exact ⟨rfl, HB2.out⟩
set_option maxHeartbeats 1000000 in
theorem rfd_weeks (F p : Int) (p0 : 0 ≤ p) (p1 : p < 240) : Tells 16 #[.agg #[.int .i64 1, .int .i64 F], .int .i64 p] (.int .i64 (wdays p)) := by
  intro w hL
  clear hL
  unfold wdays lgs
  by_cases h3 : p % 3 = 2
  · rw [if_pos h3]
    have b3 : (p % 3 != 2) = false := by simp [h3]
    by_cases h12 : p % 12 = 11
    · have b12 : (p % 12 == 11) = true := by simp [h12]
      by_cases hg : 71 * (p / 12) / 400 < 71 * (p / 12 + 1) / 400
      · rw [if_pos ⟨h12, hg⟩]
        clear h3 h12
        go_enter Tryd.func16, Tryd.ntmps16
        go_wp2_with fail
        go_ret
        exact ⟨rfl, boxed _ _⟩
      · rw [if_neg (by omega)]
        clear h3 h12
        go_enter Tryd.func16, Tryd.ntmps16
        go_wp2_with fail
        go_ret
        exact ⟨rfl, boxed _ _⟩
    · have b12 : (p % 12 == 11) = false := by simp [h12]
      rw [if_neg (by omega)]
      clear h3 h12
      go_enter Tryd.func16, Tryd.ntmps16
      go_wp2_with fail
      go_ret
      exact ⟨rfl, boxed _ _⟩
  · rw [if_neg h3]
    have b3 : (p % 3 != 2) = true := by simp [h3]
    clear h3
    go_enter Tryd.func16, Tryd.ntmps16
    go_wp2_with fail
    go_ret
    exact ⟨rfl, boxed _ _⟩

theorem rfd_beg {K F p : Int} {g : Int → Int} (h : Beg K F g) (p0 : 0 ≤ p) (p1 : p < 240) : Tells 16 #[.agg #[.int .i64 K, .int .i64 F], .int .i64 p] (.int .i64 (g (p + 1) - g p)) := by
  rcases h with ⟨rfl, f1, f2, rfl⟩ | ⟨rfl, a, a1, a2, rfl, rfl⟩
  · rw [show (fun p => F + wk p) (p + 1) - (fun p => F + wk p) p = wdays p by show F + wk (p + 1) - (F + wk p) = _; rw [wk_next p0]; omega]
    exact rfd_weeks F p p0 p1
  · rw [show (fun p => mnum (a + p)) (p + 1) - (fun p => mnum (a + p)) p = mdim (a + p) by
      show mnum (a + (p + 1)) - mnum (a + p) = _; rw [← Int.add_assoc, mnum_next (by omega)]; omega]
    exact rfd_months a p a1 a2 p0 p1

theorem rck_none (K F : Int) (h : ¬ (1 ≤ F ∧ F ≤ 999668)) : Tells 8 #[.agg #[.int .i64 K, .int .i64 F]] (.int .i64 1) := by
  intro w hL
  have HH := Lib.hid h
  clear hL h
  go_enter Tryd.func8, Tryd.ntmps8
  go_wp2_with fail
  refine (rdate_no F _ HH.out).mono ?_
  rintro e w1 ⟨rfl, rfl⟩
  go_wp2_with fail
  go_ret
  exact ⟨rfl, boxed _ _⟩
set_option maxHeartbeats 1000000 in
theorem rck_kind (K F : Int) (h0 : 1 ≤ F) (h1 : F ≤ 999668) (h : K < 0 ∨ (0 ≤ K ∧ 1 < K)) : Tells 8 #[.agg #[.int .i64 K, .int .i64 F]] (.int .i64 1) := by
  intro w hL
  obtain ⟨y, m, d, hI⟩ := isd_some h0 h1
  have HI := Lib.hid hI
  clear hL hI
  rcases h with h | ⟨h, h'⟩
  all_goals
    go_enter Tryd.func8, Tryd.ntmps8
    go_wp2_with fail
    refine (rdate_is F y m d _ HI.out).mono ?_
    rintro e w1 ⟨rfl, hb⟩
    have c0 : w1.cell? ⟨w.heap.size, 0, none⟩ = some (.int .i64 K) := kcell hb (by simp [go_sem])
    have HB := Lib.hid (up2 (boxed _ _) hb)
    clear hb
    go_wp2_with fail
    go_ret
    exact ⟨rfl, HB.out⟩
set_option maxHeartbeats 1000000 in
theorem rck_day (F y m d : Int) (hI : Isd F y m d) (hd : (d == 1) = false) : Tells 8 #[.agg #[.int .i64 0, .int .i64 F]] (.int .i64 1) := by
  intro w hL
  have HI := Lib.hid hI
  have hd' : (d != 1) = true := by simpa using hd
  clear hL hI
  go_enter Tryd.func8, Tryd.ntmps8
  go_wp2_with fail
  refine (rdate_is F y m d _ HI.out).mono ?_
  rintro e w1 ⟨rfl, hb⟩
  have c0 : w1.cell? ⟨w.heap.size, 0, none⟩ = some (.int .i64 0) := kcell hb (by simp [go_sem])
  have HB := Lib.hid (up2 (boxed _ _) hb)
  clear hb
  go_wp2_with fail
  go_ret
  exact ⟨rfl, HB.out⟩

set_option maxHeartbeats 4000000 in
theorem rck_beg (K F y m d : Int) (g : Int → Int) (b : Int) (h : Beg K F g) (hI : Isd F y m d) (hk : (K = 0 ∧ d = 1) ∨ K = 1) (hb : (g 240 ≤ 999669 ∧ b = 0) ∨ (999669 < g 240 ∧ b = 1)) :
    Tells 8 #[.agg #[.int .i64 K, .int .i64 F]] (.int .i64 b) := by
  intro w hL
  have HL := Lib.hid hL
  have HI := Lib.hid hI
  have HG := Lib.hid h
  have HB0 := Lib.hid hb
  clear hL hI h hb
  rcases hk with ⟨rfl, rfl⟩ | rfl
  all_goals
    go_enter Tryd.func8, Tryd.ntmps8
    go_wp2_with fail
    refine (rdate_is F y m _ _ HI.out).mono ?_
    rintro e w1 ⟨rfl, hb⟩
    have c0 : w1.cell? ⟨w.heap.size, 0, none⟩ = some (.int .i64 _) := kcell hb (by simp [go_sem]; rfl)
    have c1 : w1.cell? ⟨w.heap.size, 1, none⟩ = some (.int .i64 F) := kcell hb (by simp [go_sem])
    have HB := Lib.hid (up2 (boxed _ _) hb)
    clear hb
    go_wp2_with fail
    have C0 := Lib.hid c0
    have C1 := Lib.hid c1
    clear c0 c1
    obtain ⟨wo, hwo⟩ : ∃ wo : World, wo = w1 := ⟨_, rfl⟩
    rw [← hwo] at HB C0 C1 ⊢
    clear hwo
    go_loopw [7, 8] (fun a b wr => ∃ p : Int, 0 ≤ p ∧ p ≤ 240 ∧ b = .int .i64 p ∧ a = .int .i64 (g p) ∧ Below wo.heap.size wo wr) (fun _ b _ => (240 - intOf b).toNat)
    case atStart => exact ⟨0, by omega, by omega, rfl, by rw [HG.out.zero], Below.refl _ _⟩
    case round =>
      obtain ⟨p, p0, p1, rfl, rfl, hb⟩ := hrel
      have d0 := kcell hb C0.out
      have d1 := kcell hb C1.out
      have HBr := Lib.hid hb
      clear hb
      have b1 := HG.out.bd (p := p) (by omega) (by omega)
      by_cases hlt : p < 240
      · have b2 := HG.out.step (p := p) (by omega)
        go_wp2_with fail
        refine (rfd_beg HG.out p0 hlt wr (HL.out.below (up2 HB.out HBr.out))).mono ?_
        rintro e w5 ⟨rfl, hb⟩
        have HB5 := Lib.hid (up2 HBr.out hb)
        clear hb
        go_wp2_with fail
        go_roundw
        case rel => exact ⟨p + 1, by omega, by omega, by go_num, by go_num, HB5.out⟩
        case measure => simp [intOf]; omega
      · obtain rfl : p = 240 := by omega
        rcases HB0.out with ⟨q, rfl⟩ | ⟨q, rfl⟩
        · have q' : g 240 - 1 ≤ 999668 := by omega
          clear HB0 q
          go_wp2_with fail
          go_ret
          exact ⟨rfl, up2 HB.out HBr.out⟩
        · have q' : 999668 < g 240 - 1 := by omega
          clear HB0 q
          go_wp2_with fail
          go_ret
          exact ⟨rfl, up2 HB.out HBr.out⟩

theorem rck_beg2 {K F : Int} {g : Int → Int} (h : Beg K F g) (b : Int) (hb : (g 240 ≤ 999669 ∧ b = 0) ∨ (999669 < g 240 ∧ b = 1)) : Tells 8 #[.agg #[.int .i64 K, .int .i64 F]] (.int .i64 b) := by
  have hh := h
  rcases h with ⟨rfl, f1, f2, rfl⟩ | ⟨rfl, a, a1, a2, rfl, rfl⟩
  · obtain ⟨y, m, d, hI⟩ := isd_some f1 f2
    exact rck_beg _ _ y m d _ b hh hI (.inr rfl) hb
  · exact rck_beg _ _ _ _ 1 _ b hh (mnum_may a1 a2) (.inl ⟨rfl, rfl⟩) hb
theorem rck_yes {K F : Int} {g : Int → Int} (h : Cal K F g) : Tells 8 #[.agg #[.int .i64 K, .int .i64 F]] (.int .i64 0) := rck_beg2 h.1 0 (.inl ⟨h.2, rfl⟩)
theorem rck_no {K F : Int} (h : ¬ ∃ g, Cal K F g) : Tells 8 #[.agg #[.int .i64 K, .int .i64 F]] (.int .i64 1) := by
  rcases beg_cases K F with c | ⟨g, c⟩ | ⟨rfl, y, m, d, hI, hd⟩ | ⟨f1, f2, k0, k1⟩
  · exact rck_none K F c
  · exact rck_beg2 c 1 (.inr ⟨by by_cases q : g 240 ≤ 999669; exact absurd ⟨g, c, q⟩ h; omega, rfl⟩)
  · exact rck_day F y m d hI hd
  · simp only [beq_eq_false_iff_ne] at k0 k1
    exact rck_kind K F f1 f2 (by omega)

theorem rfirst_low (K F p : Int) (h : p < 0) : Tells 10 #[.agg #[.int .i64 K, .int .i64 F], .int .i64 p] (.tuple #[.int .i64 0, .int .i64 1]) := by
  intro w hL
  clear hL
  go_enter Tryd.func10, Tryd.ntmps10
  go_wp2_with fail
  go_ret2
  exact ⟨rfl, boxed _ _⟩
theorem rfirst_high (K F p : Int) (h0 : 0 ≤ p) (h : 240 ≤ p) : Tells 10 #[.agg #[.int .i64 K, .int .i64 F], .int .i64 p] (.tuple #[.int .i64 0, .int .i64 1]) := by
  intro w hL
  clear hL
  go_enter Tryd.func10, Tryd.ntmps10
  go_wp2_with fail
  go_ret2
  exact ⟨rfl, boxed _ _⟩
theorem rfirst_no {K F p : Int} (h : ¬ (0 ≤ p ∧ p < 240)) : Tells 10 #[.agg #[.int .i64 K, .int .i64 F], .int .i64 p] (.tuple #[.int .i64 0, .int .i64 1]) := by
  by_cases h0 : p < 0
  · exact rfirst_low K F p h0
  · exact rfirst_high K F p (by omega) (by omega)
set_option maxHeartbeats 4000000 in
theorem rfirst_yes {K F p : Int} {g : Int → Int} (h : Beg K F g) (p0 : 0 ≤ p) (p1 : p < 240) : Tells 10 #[.agg #[.int .i64 K, .int .i64 F], .int .i64 p] (.tuple #[.int .i64 (g p), .int .i64 0]) := by
  intro w hL
  have HL := Lib.hid hL
  have HG := Lib.hid h
  clear hL h
  go_enter Tryd.func10, Tryd.ntmps10
  go_wp2_with fail
  obtain ⟨wo, hwo⟩ : ∃ wo : World, wo = w.alloc (.cells #[.int .i64 K, .int .i64 F] 25) := ⟨_, rfl⟩
  have C0 : Hid (wo.cell? ⟨w.heap.size, 0, none⟩ = some (.int .i64 K)) := Lib.hid (by rw [hwo]; simp [go_sem])
  have C1 : Hid (wo.cell? ⟨w.heap.size, 1, none⟩ = some (.int .i64 F)) := Lib.hid (by rw [hwo]; simp [go_sem])
  have HB : Hid (Below w.heap.size w wo) := Lib.hid (by rw [hwo]; exact boxed _ _)
  rw [← hwo]
  clear hwo
  go_loopw [6, 7] (fun a b wr => ∃ i : Int, 0 ≤ i ∧ i ≤ p ∧ b = .int .i64 i ∧ a = .int .i64 (g i) ∧ Below wo.heap.size wo wr) (fun _ b _ => (p - intOf b).toNat)
  case atStart => exact ⟨0, by omega, by omega, rfl, by rw [HG.out.zero], Below.refl _ _⟩
  case round =>
    obtain ⟨i, i0, i1, rfl, rfl, hb⟩ := hrel
    have d0 := kcell hb C0.out
    have d1 := kcell hb C1.out
    have HBr := Lib.hid hb
    clear hb
    have b1 := HG.out.bd (p := i) (by omega) (by omega)
    by_cases hlt : i < p
    · have b2 := HG.out.step (p := i) (by omega)
      go_wp2_with fail
      refine (rfd_beg HG.out i0 (by omega) wr (HL.out.below (up2 HB.out HBr.out))).mono ?_
      rintro e w5 ⟨rfl, hb⟩
      have HB5 := Lib.hid (up2 HBr.out hb)
      clear hb
      go_wp2_with fail
      go_roundw
      case rel => exact ⟨i + 1, by omega, by omega, by go_num, by go_num, HB5.out⟩
      case measure => simp [intOf]; omega
    · obtain rfl : i = p := by omega
      go_wp2_with fail
      go_ret2
      exact ⟨rfl, up2 HB.out HBr.out⟩

set_option maxHeartbeats 1000000 in
theorem rlast_no {K F p : Int} (h : ¬ (0 ≤ p ∧ p < 240)) : Tells 12 #[.agg #[.int .i64 K, .int .i64 F], .int .i64 p] (.tuple #[.int .i64 0, .int .i64 1]) := by
  intro w hL
  have HL := Lib.hid hL
  have HH := Lib.hid (rfirst_no (K := K) (F := F) h)
  clear hL h
  go_enter Tryd.func12, Tryd.ntmps12
  go_wp2_with fail
  refine (HH.out _ (HL.out.below (boxed _ _))).mono ?_
  rintro e w1 ⟨rfl, hb⟩
  have HB := Lib.hid (up2 (boxed _ _) hb)
  clear hb
  go_wp2_with fail
  go_ret2
  exact ⟨rfl, HB.out⟩
set_option maxHeartbeats 1000000 in
theorem rlast_yes {K F p : Int} {g : Int → Int} (h : Beg K F g) (p0 : 0 ≤ p) (p1 : p < 240) : Tells 12 #[.agg #[.int .i64 K, .int .i64 F], .int .i64 p] (.tuple #[.int .i64 (g (p + 1) - 1), .int .i64 0]) := by
  intro w hL
  have HL := Lib.hid hL
  have HH := Lib.hid (rfirst_yes h p0 p1)
  have HH2 := Lib.hid (rfd_beg h p0 p1)
  have b1 := h.bd (p := p) (by omega) (by omega)
  have b2 := h.step (p := p) (by omega)
  rw [show g (p + 1) - 1 = g p + (g (p + 1) - g p) - 1 by omega]
  clear hL h
  go_enter Tryd.func12, Tryd.ntmps12
  go_wp2_with fail
  refine (HH.out _ (HL.out.below (boxed _ _))).mono ?_
  rintro e w1 ⟨rfl, hb⟩
  have c0 : w1.cell? ⟨w.heap.size, 0, none⟩ = some (.int .i64 K) := kcell hb (by simp [go_sem])
  have c1 : w1.cell? ⟨w.heap.size, 1, none⟩ = some (.int .i64 F) := kcell hb (by simp [go_sem])
  have HB := Lib.hid (up2 (boxed _ _) hb)
  clear hb
  go_wp2_with fail
  refine (HH2.out w1 (HL.out.below HB.out)).mono ?_
  rintro e w2 ⟨rfl, hb⟩
  have HB2 := Lib.hid (up2 HB.out hb)
  clear hb
  go_wp2_with fail
  go_ret2
  exact ⟨rfl, HB2.out⟩

set_option maxHeartbeats 1000000 in
theorem rof_low {K F day : Int} {g : Int → Int} (h : Beg K F g) (hd : day < F) : Tells 14 #[.agg #[.int .i64 K, .int .i64 F], .int .i64 day] (.tuple #[.int .i64 0, .int .i64 1]) := by
  intro w hL
  have HG := Lib.hid h.zero
  clear hL h
  go_enter Tryd.func14, Tryd.ntmps14
  go_wp2_with fail
  obtain ⟨wo, hwo⟩ : ∃ wo : World, wo = w.alloc (.cells #[.int .i64 K, .int .i64 F] 25) := ⟨_, rfl⟩
  have HB : Hid (Below w.heap.size w wo) := Lib.hid (by rw [hwo]; exact boxed _ _)
  rw [← hwo]
  clear hwo
  go_loopw [6, 7] (fun a b wr => b = .int .i64 0 ∧ a = .int .i64 F ∧ Below wo.heap.size wo wr) (fun _ b _ => 0)
  case atStart => exact ⟨rfl, rfl, Below.refl _ _⟩
  case round =>
    obtain ⟨rfl, rfl, hb⟩ := hrel
    have HBr := Lib.hid hb
    clear hb
    go_wp2_with fail
    go_ret2
    exact ⟨rfl, up2 HB.out HBr.out⟩
set_option maxHeartbeats 4000000 in
theorem rof_in (K F day : Int) (g : Int → Int) (w : World) (hL : Lg w) (h : Beg K F g) (hd : F ≤ day) :
    Calls Tryd.prog 14 #[.agg #[.int .i64 K, .int .i64 F], .int .i64 day] w (OfPost w g day) := by
  have HL := Lib.hid hL
  have HG := Lib.hid h
  have HF := Lib.hid hd
  clear hL h hd
  go_enter Tryd.func14, Tryd.ntmps14
  go_wp2_with fail
  obtain ⟨wo, hwo⟩ : ∃ wo : World, wo = w.alloc (.cells #[.int .i64 K, .int .i64 F] 25) := ⟨_, rfl⟩
  have C0 : Hid (wo.cell? ⟨w.heap.size, 0, none⟩ = some (.int .i64 K)) := Lib.hid (by rw [hwo]; simp [go_sem])
  have C1 : Hid (wo.cell? ⟨w.heap.size, 1, none⟩ = some (.int .i64 F)) := Lib.hid (by rw [hwo]; simp [go_sem])
  have HB : Hid (Below w.heap.size w wo) := Lib.hid (by rw [hwo]; exact boxed _ _)
  rw [← hwo]
  clear hwo
  go_loopw [6, 7] (fun a b wr => ∃ i : Int, 0 ≤ i ∧ i ≤ 240 ∧ b = .int .i64 i ∧ a = .int .i64 (g i) ∧ g i ≤ day ∧ Below wo.heap.size wo wr) (fun _ b _ => (240 - intOf b).toNat)
  case atStart => exact ⟨0, by omega, by omega, rfl, by rw [HG.out.zero], by rw [HG.out.zero]; exact HF.out, Below.refl _ _⟩
  case round =>
    obtain ⟨i, i0, i1, rfl, rfl, hle, hb⟩ := hrel
    have d0 := kcell hb C0.out
    have d1 := kcell hb C1.out
    have HBr := Lib.hid hb
    clear hb
    have b1 := HG.out.bd (p := i) (by omega) (by omega)
    by_cases hlt : i < 240
    · have b2 := HG.out.step (p := i) (by omega)
      have i1' : IntKind.i64.wrap (g i + (g (i + 1) - g i)) = g (i + 1) := by rw [IntKind.wrap_i64]; omega
      have HE := Lib.hid (show g i + (g (i + 1) - g i) = g (i + 1) by omega)
      clear i1'
      by_cases hd : day < g (i + 1)
      · have hd' : day < g i + (g (i + 1) - g i) := by omega
        go_wp2_with fail
        refine (rfd_beg HG.out i0 (by omega) wr (HL.out.below (up2 HB.out HBr.out))).mono ?_
        rintro e w5 ⟨rfl, hb⟩
        have HB5 := Lib.hid (up2 HBr.out hb)
        clear hb
        go_wp2_with fail
        go_ret2
        exact ⟨.inr ⟨i, i0, hlt, hle, hd, rfl⟩, up2 HB.out HB5.out⟩
      · have hd' : g i + (g (i + 1) - g i) ≤ day := by omega
        have hd2 : g (i + 1) ≤ day := by omega
        clear hd
        go_wp2_with fail
        refine (rfd_beg HG.out i0 (by omega) wr (HL.out.below (up2 HB.out HBr.out))).mono ?_
        rintro e w5 ⟨rfl, hb⟩
        have HB5 := Lib.hid (up2 HBr.out hb)
        clear hb
        go_wp2_with fail
        go_roundw
        case rel => exact ⟨i + 1, by omega, by omega, by go_num, by go_num, hd2, HB5.out⟩
        case measure => simp [intOf]; omega
    · obtain rfl : i = 240 := by omega
      go_wp2_with fail
      go_ret2
      exact ⟨.inl ⟨hle, rfl⟩, up2 HB.out HBr.out⟩
theorem rof_high {K F day : Int} {g : Int → Int} (h : Cal K F g) (h0 : g 240 ≤ day) : Tells 14 #[.agg #[.int .i64 K, .int .i64 F], .int .i64 day] (.tuple #[.int .i64 0, .int .i64 1]) := by
  intro w hL
  have := h.1.mono (p := 0) (q := 240) (by omega) (by omega)
  rw [h.1.zero] at this
  refine (rof_in K F day g w hL h.1 (by omega)).mono ?_
  rintro e w' ⟨⟨_, rfl⟩ | ⟨k, k0, k1, k2, k3, rfl⟩, hb⟩
  · exact ⟨rfl, hb⟩
  · have := h.1.mono (p := k + 1) (q := 240) (by omega) (by omega); omega
theorem rof_yes {K F day k : Int} {g : Int → Int} (h : Cal K F g) (k0 : 0 ≤ k) (k1 : k < 240) (k2 : g k ≤ day) (k3 : day < g (k + 1)) : Tells 14 #[.agg #[.int .i64 K, .int .i64 F], .int .i64 day] (.tuple #[.int .i64 k, .int .i64 0]) := by
  intro w hL
  have := h.1.mono (p := 0) (q := k) (by omega) k0
  rw [h.1.zero] at this
  refine (rof_in K F day g w hL h.1 (by omega)).mono ?_
  rintro e w' ⟨⟨h1, rfl⟩ | ⟨j, j0, j1, j2, j3, rfl⟩, hb⟩
  · have := h.1.mono (p := k + 1) (q := 240) (by omega) (by omega); omega
  · have : j = k := by
      by_cases a : j < k
      · have := h.1.mono (p := j + 1) (q := k) (by omega) (by omega); omega
      by_cases b : k < j
      · have := h.1.mono (p := k + 1) (q := j) (by omega) (by omega); omega
      omega
    subst this
    exact ⟨rfl, hb⟩
end Go.Proofs.YtmodnkdgkdpacaaDoor
