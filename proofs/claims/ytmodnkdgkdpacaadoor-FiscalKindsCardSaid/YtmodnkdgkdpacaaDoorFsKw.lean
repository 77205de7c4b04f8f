/- FiscalKinds, of weeks. -/
import Derived.Test.YtmodnkdgkdpacaaDoorFsAwake
import Derived.StillTailTactics
namespace Go.Proofs.YtmodnkdgkdpacaaDoor
open Go.RowKit

theorem Tells.at {f : FuncId} {args : Array Value} {v : Value} (h : Tells f args v) (W : World) (hL : Lg W) : Calls Tryd.prog f args W fun e w' => e = .returned v ∧ Below W.heap.size W w' := h W hL

theorem wday_still (n : Int) (w : World) (h : Am n) : Calls Tryd.prog 20 #[.int .i64 n] w fun e w' => e = .returned (.int .i64 (wday n)) ∧ w' = w :=
  (wday_any n w h).mono fun _ _ ⟨a, b⟩ => ⟨a, b.symm⟩

set_option maxRecDepth 100000 in
set_option maxHeartbeats 4000000 in
theorem kd_weeks (F p A d : Int) (w : World) (hL : Lg w) (H : Tells 7 #[.agg #[.int .i64 1, .int .i64 F]] (.int .i64 0))
    (H1 : Tells 9 #[.agg #[.int .i64 1, .int .i64 F], .int .i64 p] (.tuple #[.int .i64 A, .int .i64 0]))
    (H2 : ∀ i, 0 ≤ i → i < 240 → Tells 15 #[.agg #[.int .i64 1, .int .i64 F], .int .i64 i] (.int .i64 (wdays i)))
    (H3 : Tells 15 #[.agg #[.int .i64 1, .int .i64 F], .int .i64 p] (.int .i64 d))
    (hd : d = 28 ∨ d = 35 ∨ d = 42) (hw : (wday A == wday F) = true) (hA : Am A) (hF : Am F) (p0 : 0 ≤ p) (p1 : p < 240) :
    Calls Tryd.prog 5 #[.agg #[.int .i64 1, .int .i64 F], .int .i64 p] w fun e w' => e = .returned (.bool true) ∧ Below w.heap.size w w' := by
  have HL := Lib.hid hL
  have HH := Lib.hid H
  have HH1 := Lib.hid H1
  have HH2 := Lib.hid H2
  have HH3 := Lib.hid H3
  have HD := Lib.hid hd
  have HW := Lib.hid hw
  have HA := Lib.hid hA
  have HF := Lib.hid hF
  clear hL H H1 H2 H3 hd hw hA hF
  go_enter Tryd.func5, Tryd.ntmps5
  go_wp2_with fail
  refine (fs_awake _ (HL.out.below (boxed _ _))).mono ?_
  rintro e w1 ⟨rfl, hb⟩
  have c0 : w1.cell? ⟨w.heap.size, 0, none⟩ = some (.int .i64 1) := kcell hb (by simp [go_sem])
  have c1 : w1.cell? ⟨w.heap.size, 1, none⟩ = some (.int .i64 F) := kcell hb (by simp [go_sem])
  have HB := Lib.hid (up2 (boxed _ _) hb)
  clear hb
  go_wp2_with fail
  refine (HH.out w1 (HL.out.below HB.out)).mono ?_
  rintro e w2 ⟨rfl, hb⟩
  have d0 := kcell hb c0
  have d1 := kcell hb c1
  have HB2 := Lib.hid (up2 HB.out hb)
  clear hb c0 c1
  go_wp2_with fail
  refine (HH1.out w2 (HL.out.below HB2.out)).mono ?_
  rintro e w3 ⟨rfl, hb⟩
  have c0 := Lib.hid (kcell hb d0)
  have c1 := Lib.hid (kcell hb d1)
  have x0 := kcell hb d0
  have x1 := kcell hb d1
  have HB3 := Lib.hid (up2 HB2.out hb)
  clear hb d0 d1
  go_wp2_with fail
  clear x0 x1
  obtain ⟨wo, hwo⟩ : ∃ wo : World, wo = w3 := ⟨_, rfl⟩
  rw [← hwo] at HB3 c0 c1 ⊢
  clear hwo
  go_loopw [13, 14] (fun a b wr => ∃ i : Int, p - p % 12 ≤ i ∧ i ≤ p - p % 12 + 12 ∧ b = .int .i64 i ∧ a = .int .i64 (wk i - wk (p - p % 12)) ∧ Below wo.heap.size wo wr) (fun _ b _ => (p - p % 12 + 12 - intOf b).toNat)
  case atStart => exact ⟨p - p % 12, by omega, by omega, by go_num, by simp, Below.refl _ _⟩
  case round =>
    obtain ⟨i, i0, i1, rfl, rfl, hb⟩ := hrel
    have d0 := kcell hb c0.out
    have d1 := kcell hb c1.out
    have HBr := Lib.hid hb
    clear hb
    have b1 := wk_bd (p := i) (by omega) (by omega)
    have b2 := wk_bd (p := p - p % 12) (by omega) (by omega)
    have b3 := wdays_bd i
    by_cases hlt : i < p - p % 12 + 12
    · have nx := Lib.hid (wk_next (p := i) (by omega))
      go_wp2_with fail
      refine (HH2.out i (by omega) (by omega) wr (HL.out.below (up2 HB3.out HBr.out))).mono ?_
      rintro e w5 ⟨rfl, hb⟩
      have HB5 := Lib.hid (up2 HBr.out hb)
      clear hb
      go_wp2_with fail
      go_roundw
      case rel => exact ⟨i + 1, by omega, by omega, by go_num, by rw [nx.out]; go_num, HB5.out⟩
      case measure => simp [intOf]; omega
    · have HI : Hid (i = p - p % 12 + 12) := Lib.hid (by omega)
      have HY : Hid (wk i - wk (p - p % 12) = 364 ∨ wk i - wk (p - p % 12) = 371) := Lib.hid (by
        have := wk_year (q := p / 12) (by omega)
        rw [HI.out, show p - p % 12 = 12 * (p / 12) by omega]; exact this)
      go_wp2_with fail
      obtain ⟨W0, hW0⟩ : ∃ W0, W0 = wr := ⟨_, rfl⟩
      rw [← hW0] at HBr d0 d1 ⊢
      clear hW0
      have HL0 := Lib.hid (HL.out.below (up2 HB3.out HBr.out))
      have HBw := Lib.hid (up2 HB3.out HBr.out)
      have hw := HW.out
      clear HW
      rcases HD.out with rfl | rfl | rfl <;> rcases HY.out with hy | hy
      all_goals
        rw [hy]
        clear hy HY HD b1 b2 b3
        go_still_tail 17, (by kernel_rfl)
        still_call (wday_still _ _ HA.out)
        repeat still_step
        still_call (wday_still _ _ HF.out)
        repeat still_step
        refine wpStill_nil ?_
        change wpList _ _ _ _ _ W0.drew
        have d0' : W0.drew.cell? ⟨w.heap.size, 0, none⟩ = _ := d0
        have d1' : W0.drew.cell? ⟨w.heap.size, 1, none⟩ = _ := d1
        go_wp2_with fail
        refine (HH3.out _ HL0.out.drew).mono ?_
        rintro e w5 ⟨rfl, hb⟩
        have HB5 := Lib.hid (up2 HBw.out.drew hb)
        clear hb
      all_goals go_wp2_with fail
      all_goals
        go_ret
        exact ⟨rfl, HB5.out⟩

end Go.Proofs.YtmodnkdgkdpacaaDoor
