/- Contracts: longsAhead, daysAhead, mayBegin, endsOfWeeks, endsOfMonth, ends. -/
import Derived.Test.YtmodnkdgkdpacaaDoorFsMath
import Derived.Test.YtmodnkdgkdpacaaDoorCvF
namespace Go.Proofs.YtmodnkdgkdpacaaDoor
open Go.RowKit

set_option maxHeartbeats 400000 in
theorem longs_any (q : Int) (w : World) (h0 : 0 ≤ q) (h1 : q ≤ 1000) :
    Calls Tryd.prog 39 #[.int .i64 q] w fun e w' => e = .returned (.int .i64 (lgs q)) ∧ w = w' := by
  unfold lgs
  go_enter Tryd.func39, Tryd.ntmps39
  go_wp2
  go_ret
  exact ⟨rfl, rfl⟩

set_option maxHeartbeats 1000000 in
theorem dayah_any (p : Int) (w : World) (h0 : 0 ≤ p) (h1 : p ≤ 240) :
    Calls Tryd.prog 38 #[.int .i64 p] w fun e w' => e = .returned (.int .i64 (wk p)) ∧ w = w' := by
  have hl := lgs_next (q := p / 12) (by omega)
  have l0 := hl.1
  have l1 := hl.2.2.2
  unfold wk
  rw [show p % 12 % 3 = p % 3 by omega]
  clear hl
  go_enter Tryd.func38, Tryd.ntmps38
  go_wp2_with (go_at_call 39; (with_reducible refine (longs_any _ _ (by omega) (by omega)).mono ?_); rintro e w' ⟨rfl, rfl⟩)
  go_ret
  exact ⟨rfl, rfl⟩

/-- may it begin so? -/
theorem mb_none (K F : Int) (w : World) (h : ¬ (1 ≤ F ∧ F ≤ 999668)) :
    Calls Tryd.prog 21 #[.agg #[.int .i64 K, .int .i64 F]] w fun e w' => e = .returned (.bool false) ∧ Below w.heap.size w w' := by
  go_enter Tryd.func21, Tryd.ntmps21
  go_wp2_with fail
  refine (date_no F _ h).mono ?_
  rintro e w' ⟨rfl, rfl⟩
  go_wp2_with fail
  go_ret
  exact ⟨rfl, boxed _ _⟩
set_option maxHeartbeats 1000000 in
theorem mb_months (F y m d : Int) (b : Bool) (w : World) (hL : Lg w) (hI : Isd F y m d) (hd : (d == 1) = b) :
    Calls Tryd.prog 21 #[.agg #[.int .i64 0, .int .i64 F]] w fun e w' => e = .returned (.bool b) ∧ Below w.heap.size w w' := by
  have HL := Lib.hid hL
  have HI := Lib.hid hI
  clear hL hI
  go_enter Tryd.func21, Tryd.ntmps21
  go_wp2_with fail
  refine (date_is F y m d _ (HL.out.below (boxed _ _)) HI.out).mono ?_
  rintro e w1 ⟨rfl, hb1⟩
  have c0 : w1.cell? ⟨w.heap.size, 0, none⟩ = some (.int .i64 0) := kcell hb1 (by simp [go_sem])
  have HB := Lib.hid (up2 (boxed _ _) hb1)
  clear hb1
  go_wp2_with fail
  go_ret
  exact ⟨rfl, HB.out⟩
set_option maxHeartbeats 1000000 in
theorem mb_weeks (F : Int) (w : World) (hL : Lg w) (h0 : 1 ≤ F) (h1 : F ≤ 999668) :
    Calls Tryd.prog 21 #[.agg #[.int .i64 1, .int .i64 F]] w fun e w' => e = .returned (.bool true) ∧ Below w.heap.size w w' := by
  have HL := Lib.hid hL
  obtain ⟨y, m, d, hI⟩ := isd_some h0 h1
  have HI := Lib.hid hI
  clear hL hI
  go_enter Tryd.func21, Tryd.ntmps21
  go_wp2_with fail
  refine (date_is F y m d _ (HL.out.below (boxed _ _)) HI.out).mono ?_
  rintro e w1 ⟨rfl, hb1⟩
  have c0 : w1.cell? ⟨w.heap.size, 0, none⟩ = some (.int .i64 1) := kcell hb1 (by simp [go_sem])
  have HB := Lib.hid (up2 (boxed _ _) hb1)
  clear hb1
  go_wp2_with fail
  go_ret
  exact ⟨rfl, HB.out⟩
set_option maxHeartbeats 1000000 in
theorem mb_else (K F : Int) (w : World) (hL : Lg w) (h0 : 1 ≤ F) (h1 : F ≤ 999668) (k0 : (K == 0) = false) (k1 : (K == 1) = false) :
    Calls Tryd.prog 21 #[.agg #[.int .i64 K, .int .i64 F]] w fun e w' => e = .returned (.bool false) ∧ Below w.heap.size w w' := by
  have HL := Lib.hid hL
  obtain ⟨y, m, d, hI⟩ := isd_some h0 h1
  have HI := Lib.hid hI
  clear hL hI
  go_enter Tryd.func21, Tryd.ntmps21
  go_wp2_with fail
  refine (date_is F y m d _ (HL.out.below (boxed _ _)) HI.out).mono ?_
  rintro e w1 ⟨rfl, hb1⟩
  have c0 : w1.cell? ⟨w.heap.size, 0, none⟩ = some (.int .i64 K) := kcell hb1 (by simp [go_sem])
  have HB := Lib.hid (up2 (boxed _ _) hb1)
  clear hb1
  go_wp2_with fail
  go_ret
  exact ⟨rfl, HB.out⟩

set_option maxHeartbeats 1000000 in
theorem eow_yes (F p : Int) (w : World) (hL : Lg w) (h0 : 1 ≤ F) (h1 : F + wk (p + 1) - 1 ≤ 999668) (p0 : 0 ≤ p) (p1 : p ≤ 239) :
    Calls Tryd.prog 33 #[.int .i64 F, .int .i64 p] w fun e w' => e = .returned (.tuple #[.int .i64 (F + wk p), .int .i64 (F + wk (p + 1) - 1), .int .i64 0]) ∧ Below w.heap.size w w' := by
  have HL := Lib.hid hL
  have b0 := wk_bd (p := p) p0 (by omega)
  have b1 := wk_bd (p := p + 1) (by omega) (by omega)
  have hst := wk_next p0
  have hwd := wdays_bd p
  have HI : Hid (1 ≤ F + wk (p + 1) - 1 ∧ F + wk (p + 1) - 1 ≤ 999668) := Lib.hid ⟨by omega, h1⟩
  clear hL hst hwd
  go_enter Tryd.func33, Tryd.ntmps33
  go_wp2_with (go_at_call 38; (with_reducible refine (dayah_any _ _ (by omega) (by omega)).mono ?_); rintro e w' ⟨rfl, rfl⟩)
  obtain ⟨y, m, d, hI⟩ := isd_some HI.out.1 HI.out.2
  refine (date_is _ y m d _ HL.out hI).mono ?_
  rintro e w1 ⟨rfl, hb1⟩
  have HB := Lib.hid hb1
  clear hb1 hI
  go_wp2_with (go_at_call 38; (with_reducible refine (dayah_any _ _ (by omega) (by omega)).mono ?_); rintro e w' ⟨rfl, rfl⟩)
  exact bodyPost_ret (v := .tuple #[.int .i64 (F + wk p), .int .i64 (F + wk (p + 1) - 1), .int .i64 0]) (by simp [results, Tryd.results33, go_sem]) rfl ⟨rfl, HB.out⟩
set_option maxHeartbeats 1000000 in
theorem eow_no (F p : Int) (w : World) (h0 : 1 ≤ F) (h2 : F ≤ 999668) (h1 : 999668 < F + wk (p + 1) - 1) (p0 : 0 ≤ p) (p1 : p ≤ 239) :
    Calls Tryd.prog 33 #[.int .i64 F, .int .i64 p] w fun e w' => e = .returned (.tuple #[.int .i64 0, .int .i64 0, .int .i64 1]) ∧ Below w.heap.size w w' := by
  have b1 := wk_bd (p := p + 1) (by omega) (by omega)
  have HI : Hid (¬ (1 ≤ F + wk (p + 1) - 1 ∧ F + wk (p + 1) - 1 ≤ 999668)) := Lib.hid (by omega)
  go_enter Tryd.func33, Tryd.ntmps33
  go_wp2_with (go_at_call 38; (with_reducible refine (dayah_any _ _ (by omega) (by omega)).mono ?_); rintro e w' ⟨rfl, rfl⟩)
  refine (date_no _ _ HI.out).mono ?_
  rintro e w1 ⟨rfl, rfl⟩
  go_wp2_with fail
  exact bodyPost_ret (v := .tuple #[.int .i64 0, .int .i64 0, .int .i64 1]) (by simp [results, Tryd.results33, go_sem]) rfl ⟨rfl, Below.refl _ _⟩

theorem mah_of (a : Int) : mah (a / 12 + 1) (a % 12 + 1) = a := by unfold mah; omega
theorem mto_of {k : Int} (h : 0 ≤ k) : mto k 1 = mnum k := by
  have := mdim_bd h
  unfold mdim at this
  unfold mto mnum
  rw [show min 1 (dim (k / 12 + 1) (k % 12 + 1)) = 1 by omega]
theorem move_in (a p : Int) (w : World) (hL : Lg w) (a0 : 0 ≤ a) (a1 : a ≤ 32843) (p0 : 0 ≤ p) (h : a + p ≤ 32843) :
    Calls Tryd.prog 18 #[.int .i64 (mnum a), .int .i64 p] w fun e w' => e = .returned (.tuple #[.int .i64 (mnum (a + p)), .int .i64 0]) ∧ Below w.heap.size w w' := by
  have := move_yes (mnum a) _ _ 1 p w hL (mnum_may a0 a1) (by rw [mah_of]; omega) (by rw [mah_of]; omega)
  rw [mah_of, mto_of (by omega)] at this
  exact this
theorem move_out (a p : Int) (w : World) (hL : Lg w) (a0 : 0 ≤ a) (a1 : a ≤ 32843) (p0 : 0 ≤ p) (p1 : p ≤ 239) (h : 32843 < a + p) :
    Calls Tryd.prog 18 #[.int .i64 (mnum a), .int .i64 p] w fun e w' => e = .returned (.tuple #[.int .i64 0, .int .i64 1]) ∧ Below w.heap.size w w' :=
  move_no (mnum a) _ _ 1 p w hL (mnum_may a0 a1) (by unfold Am; omega) (by rw [mah_of]; omega)

set_option maxHeartbeats 1000000 in
theorem eom_yes (a p : Int) (w : World) (hL : Lg w) (a0 : 0 ≤ a) (a1 : a ≤ 32843) (p0 : 0 ≤ p) (h : a + p ≤ 32843) :
    Calls Tryd.prog 34 #[.int .i64 (mnum a), .int .i64 p] w fun e w' => e = .returned (.tuple #[.int .i64 (mnum (a + p)), .int .i64 (mnum (a + (p + 1)) - 1), .int .i64 0]) ∧ Below w.heap.size w w' := by
  have HL := Lib.hid hL
  have HM : Hid (∀ W, Lg W → Calls Tryd.prog 18 #[.int .i64 (mnum a), .int .i64 p] W fun e w' => e = .returned (.tuple #[.int .i64 (mnum (a + p)), .int .i64 0]) ∧ Below W.heap.size W w') :=
    Lib.hid fun W hW => move_in a p W hW a0 a1 p0 h
  have HI := Lib.hid (mnum_may (k := a + p) (by omega) h)
  have HN := Lib.hid (mnum_next (k := a + p) (by omega))
  have bd := mdim_bd (k := a + p) (by omega)
  have bn := isd_bd HI.out
  have HD : Hid (dim ((a + p) / 12 + 1) ((a + p) % 12 + 1) = mdim (a + p)) := Lib.hid rfl
  obtain ⟨A, hA⟩ : ∃ A, A = mnum a := ⟨_, rfl⟩
  obtain ⟨k, hk⟩ : ∃ k, k = a + p := ⟨_, rfl⟩
  rw [show a + (p + 1) = a + p + 1 by omega]
  rw [← hA] at HM
  rw [← hk] at HM HI HN bd bn HD
  rw [← hA, ← hk]
  have k0 : 0 ≤ k := by omega
  have k1 : k ≤ 32843 := by omega
  obtain ⟨Y, hY⟩ : ∃ Y, Y = k / 12 + 1 := ⟨_, rfl⟩
  obtain ⟨M, hM⟩ : ∃ M, M = k % 12 + 1 := ⟨_, rfl⟩
  have y1 : 1 ≤ Y := by omega
  have y2 : Y ≤ 3000 := by omega
  rw [← hY, ← hM] at HI HD
  clear hA hk hL hY hM a0 a1 p0 h
  rw [HN.out]
  go_enter Tryd.func34, Tryd.ntmps34
  go_wp2_with fail
  refine (HM.out w HL.out).mono ?_
  rintro e w1 ⟨rfl, hb1⟩
  have HB1 := Lib.hid hb1
  clear hb1
  go_wp2_with fail
  refine (date_is _ Y M 1 w1 (HL.out.below HB1.out) HI.out).mono ?_
  rintro e w2 ⟨rfl, hb2⟩
  have HB2 := Lib.hid (up2 HB1.out hb2)
  clear hb2
  go_wp2_with fail
  refine (long_any Y M w2 (HL.out.below HB2.out) (am_small (by omega) (by omega))).mono ?_
  rintro e w3 ⟨rfl, rfl⟩
  rw [HD.out]
  go_wp2_with fail
  exact bodyPost_ret (v := .tuple #[.int .i64 (mnum k), .int .i64 (mnum k + mdim k - 1), .int .i64 0]) (by simp [results, Tryd.results34, go_sem]) rfl ⟨rfl, HB2.out⟩
set_option maxHeartbeats 1000000 in
theorem eom_no (a p : Int) (w : World) (hL : Lg w) (a0 : 0 ≤ a) (a1 : a ≤ 32843) (p0 : 0 ≤ p) (p1 : p ≤ 239) (h : 32843 < a + p) :
    Calls Tryd.prog 34 #[.int .i64 (mnum a), .int .i64 p] w fun e w' => e = .returned (.tuple #[.int .i64 0, .int .i64 0, .int .i64 1]) ∧ Below w.heap.size w w' := by
  have HM := Lib.hid (move_out a p w hL a0 a1 p0 p1 h)
  obtain ⟨A, hA⟩ : ∃ A, A = mnum a := ⟨_, rfl⟩
  rw [← hA] at HM
  rw [← hA]
  clear hA hL a0 a1 p0 p1 h
  go_enter Tryd.func34, Tryd.ntmps34
  go_wp2_with fail
  refine HM.out.mono ?_
  rintro e w1 ⟨rfl, hb1⟩
  have HB1 := Lib.hid hb1
  clear hb1
  go_wp2_with fail
  exact bodyPost_ret (v := .tuple #[.int .i64 0, .int .i64 0, .int .i64 1]) (by simp [results, Tryd.results34, go_sem]) rfl ⟨rfl, HB1.out⟩
end Go.Proofs.YtmodnkdgkdpacaaDoor
