/- Contracts: Days, Search, dateOf, Date. -/
import Derived.Test.YtmodnkdgkdpacaaDoorCvC
namespace Go.Proofs.YtmodnkdgkdpacaaDoor
open Go.RowKit

set_option maxHeartbeats 400000 in
theorem clo_any (n i : Int) (p : Addr) (W : World) (hc : W.cell? p = some (.int .i64 n)) (h0 : 0 ≤ i) (h1 : i ≤ 2736) :
    Calls Tryd.prog 36 #[.int .i64 i, .pointer (some p)] W fun e w' => e = .returned (.bool (decide (n ≤ dby (i + 2)))) ∧ ∃ q, w' = W.drewN q := by
  have i1 : IntKind.i64.wrap (i + 2) = i + 2 := by rw [IntKind.wrap_i64]; omega
  go_enter Tryd.func36, Tryd.ntmps36
  go_wp2_with fail
  go_quiet (first | (go_at_call 37; with_reducible exact quiet_left (ahead_any _ _ (by omega) (by omega))))
  go_wp2_with fail
  go_ret
  exact ⟨rfl, nq, rfl⟩

/-- what the search finds -/
def Found (w : World) (n : Int) (e : Ending) (w' : World) : Prop := ∃ k : Int, 0 ≤ k ∧ k ≤ 2736 ∧ dby (k + 1) < n ∧ n ≤ dby (k + 2) ∧ e = .returned (.int .i64 k) ∧ ∃ q, w' = w.drewN q


set_option maxHeartbeats 1000000 in
theorem search_any (n : Int) (p : Addr) (w : World) (hc : w.cell? p = some (.int .i64 n)) (h0 : 1 ≤ n) (h1 : n ≤ 999668) :
    Calls Tryd.prog 25 #[.int .i64 2736, .func (.func 36) #[] #[.pointer (some p)]] w (Found w n) := by
  have HC := Lib.hid hc
  have s0 : dby (0 + 1) < n := by rw [show (0 : Int) + 1 = 1 by omega, dby_one]; omega
  have s1 : n ≤ dby (2736 + 2) := by rw [show (2736 : Int) + 2 = 2738 by omega, dby_all]; omega
  clear hc
  go_enter Tryd.func25, Tryd.ntmps25
  go_wp2_with fail
  go_loopw [5, 6] (fun a b wr => ∃ i j : Int, 0 ≤ i ∧ i ≤ j ∧ j ≤ 2736 ∧ a = .int .i64 i ∧ b = .int .i64 j ∧ dby (i + 1) < n ∧ n ≤ dby (j + 2) ∧ ∃ q, wr = w.drewN q) (fun a b _ => (intOf b - intOf a).toNat)
  case atStart => exact ⟨0, 2736, by omega, by omega, by omega, rfl, rfl, s0, s1, 0, rfl⟩
  case round =>
    obtain ⟨i, j, a0, a1, a2, rfl, rfl, a3, a4, q, rfl⟩ := hrel
    by_cases hlt : i < j
    · have HQ := Lib.hid (show (w.drewN q).cell? p = some (.int .i64 n) from HC.out)
      obtain ⟨W, hW⟩ : ∃ W, W = w.drewN q := ⟨_, rfl⟩
      rw [← hW] at HQ ⊢
      have HW := Lib.hid hW
      clear hW
      go_wp2_with fail
      have g1 : i ≤ (i + j) / 2 := by omega
      have g2 : (i + j) / 2 < j := by omega
      obtain ⟨h, hh⟩ : ∃ h, h = (i + j) / 2 := ⟨_, rfl⟩
      rw [← hh] at g1 g2 ⊢
      clear hh
      refine (clo_any n h p W HQ.out (by omega) (by omega)).mono ?_
      rintro e w1 ⟨rfl, q1, rfl⟩
      obtain ⟨q2, hq2⟩ : ∃ q2, W.drewN q1 = w.drewN q2 := ⟨_, by rw [HW.out, drewN_two]⟩
      rw [hq2]
      clear hq2 HQ HW
      by_cases hn : n ≤ dby (h + 2)
      · have hb : decide (n ≤ dby (h + 2)) = true := decide_eq_true hn
        rw [hb]
        clear hb
        go_wp2_with fail
        go_roundw
        case rel => exact ⟨i, h, by omega, by omega, by omega, rfl, rfl, a3, hn, q2, rfl⟩
        case measure => simp [intOf]; omega
      · have hb : decide (n ≤ dby (h + 2)) = false := decide_eq_false hn
        rw [hb]
        clear hb
        go_wp2_with fail
        go_roundw
        case rel => exact ⟨h + 1, j, by omega, by omega, by omega, rfl, rfl, by rw [show h + 1 + 1 = h + 2 by omega]; omega, a4, q2, rfl⟩
        case measure => simp [intOf]; omega
    · have : i = j := by omega
      subst this
      have hz : ¬ i < i := by omega
      go_wp2_with fail
      go_ret
      exact ⟨i, by omega, by omega, a3, a4, rfl, q, rfl⟩

end Go.Proofs.YtmodnkdgkdpacaaDoor
