/- Contracts: the closure of Of, its search, Of. -/
import Derived.Test.YtmodnkdgkdpacaaDoorFsB
namespace Go.Proofs.YtmodnkdgkdpacaaDoor
open Go.RowKit

set_option maxHeartbeats 1000000 in
theorem ofc_any (K F p day : Int) (a c : Int) (bc bd : Nat) (w : World) (hL : Lg w) (hK : w.cell? ⟨bc, 0, none⟩ = some (.int .i64 K)) (hF : w.cell? ⟨bc, 1, none⟩ = some (.int .i64 F)) (hD : w.cell? ⟨bd, 0, none⟩ = some (.int .i64 day))
    (E : Tells 22 #[.agg #[.int .i64 K, .int .i64 F], .int .i64 p] (.tuple #[.int .i64 a, .int .i64 c, .int .i64 0])) :
    Calls Tryd.prog 26 #[.int .i64 p, .pointer (some ⟨bc, 0, none⟩), .pointer (some ⟨bd, 0, none⟩)] w fun e w' => e = .returned (.bool (decide (day ≤ c))) ∧ Below w.heap.size w w' := by
  have HL := Lib.hid hL
  have HE := Lib.hid E
  clear hL E
  go_enter Tryd.func26, Tryd.ntmps26
  go_wp2_with fail
  refine (HE.out w HL.out).mono ?_
  rintro e w1 ⟨rfl, hb⟩
  have hD1 := kcell hb hD
  have HB := Lib.hid hb
  clear hb hK hF hD
  go_wp2_with fail
  go_ret
  exact ⟨rfl, HB.out⟩

/-- what the search finds -/
def FoundP (w : World) (g : Int → Int) (day : Int) (e : Ending) (w' : World) : Prop :=
  ∃ k : Int, 0 ≤ k ∧ k ≤ 240 ∧ g k ≤ day ∧ (k = 240 ∨ day < g (k + 1)) ∧ e = .returned (.int .i64 k) ∧ Below w.heap.size w w'

set_option maxHeartbeats 1000000 in
theorem searchP_any (K F day : Int) (g : Int → Int) (bc bd : Nat) (w : World) (hL : Lg w) (hK : w.cell? ⟨bc, 0, none⟩ = some (.int .i64 K)) (hF : w.cell? ⟨bc, 1, none⟩ = some (.int .i64 F)) (hD : w.cell? ⟨bd, 0, none⟩ = some (.int .i64 day))
    (h : Cal K F g) (h0 : F ≤ day) :
    Calls Tryd.prog 25 #[.int .i64 240, .func (.func 26) #[] #[.pointer (some ⟨bc, 0, none⟩), .pointer (some ⟨bd, 0, none⟩)]] w (FoundP w g day) := by
  have HC : Hid (Lg w ∧ w.cell? ⟨bc, 0, none⟩ = some (.int .i64 K) ∧ w.cell? ⟨bc, 1, none⟩ = some (.int .i64 F) ∧ w.cell? ⟨bd, 0, none⟩ = some (.int .i64 day)) := Lib.hid ⟨hL, hK, hF, hD⟩
  have HE : Hid (∀ p : Int, 0 ≤ p → p ≤ 239 → Tells 22 #[.agg #[.int .i64 K, .int .i64 F], .int .i64 p] (.tuple #[.int .i64 (g p), .int .i64 (g (p + 1) - 1), .int .i64 0])) :=
    Lib.hid fun p p0 p1 => ends_yes h.1 p0 p1 (h.bd (p := p + 1) (by omega) (by omega)).2
  have s0 : g 0 ≤ day := by rw [h.1.zero]; exact h0
  clear hL hK hF hD h h0
  go_enter Tryd.func25, Tryd.ntmps25
  go_wp2_with fail
  go_loopw [5, 6] (fun a b wr => ∃ i j : Int, 0 ≤ i ∧ i ≤ j ∧ j ≤ 240 ∧ a = .int .i64 i ∧ b = .int .i64 j ∧ g i ≤ day ∧ (j = 240 ∨ day < g (j + 1)) ∧ Below w.heap.size w wr) (fun a b _ => (intOf b - intOf a).toNat)
  case atStart => exact ⟨0, 240, by omega, by omega, by omega, rfl, rfl, s0, .inl rfl, Below.refl _ _⟩
  case round =>
    obtain ⟨i, j, a0, a1, a2, rfl, rfl, a3, a4, hb⟩ := hrel
    have HB := Lib.hid hb
    have HJ := Lib.hid a4
    clear hb a4
    by_cases hlt : i < j
    · go_wp2_with fail
      have g1 : i ≤ (i + j) / 2 := by omega
      have g2 : (i + j) / 2 < j := by omega
      obtain ⟨h, hh⟩ : ∃ h, h = (i + j) / 2 := ⟨_, rfl⟩
      rw [← hh] at g1 g2 ⊢
      clear hh
      obtain ⟨gh, hgh⟩ : ∃ gh, gh = g (h + 1) - 1 := ⟨_, rfl⟩
      have E := HE.out h (by omega) (by omega)
      rw [← hgh] at E
      have HG := Lib.hid hgh
      clear hgh
      refine (ofc_any K F h day _ _ bc bd wr (HC.out.1.below HB.out) (kcell HB.out HC.out.2.1) (kcell HB.out HC.out.2.2.1) (kcell HB.out HC.out.2.2.2) E).mono ?_
      rintro e w1 ⟨rfl, hb1⟩
      have HB1 := Lib.hid (up2 HB.out hb1)
      clear hb1 E
      by_cases hn : day ≤ gh
      · have hb : decide (day ≤ gh) = true := decide_eq_true hn
        rw [hb]
        clear hb
        go_wp2_with fail
        go_roundw
        case rel => exact ⟨i, h, by omega, by omega, by omega, rfl, rfl, a3, .inr (by have := HG.out; omega), HB1.out⟩
        case measure => simp [intOf]; omega
      · have hb : decide (day ≤ gh) = false := decide_eq_false hn
        rw [hb]
        clear hb
        go_wp2_with fail
        go_roundw
        case rel => exact ⟨h + 1, j, by omega, by omega, by omega, rfl, rfl, by have := HG.out; omega, HJ.out, HB1.out⟩
        case measure => simp [intOf]; omega
    · have : i = j := by omega
      subst this
      have hz : ¬ i < i := by omega
      go_wp2_with fail
      go_ret
      exact ⟨i, by omega, by omega, a3, HJ.out, rfl, HB.out⟩

set_option maxHeartbeats 1000000 in
theorem of_none (K F day : Int) (H : Tells 7 #[.agg #[.int .i64 K, .int .i64 F]] (.int .i64 1)) :
    Tells 13 #[.agg #[.int .i64 K, .int .i64 F], .int .i64 day] (.tuple #[.int .i64 0, .int .i64 1]) := by
  intro w hL
  have HL := Lib.hid hL
  have HH := Lib.hid H
  clear hL H
  go_enter Tryd.func13, Tryd.ntmps13
  go_wp2_with fail
  refine (HH.out _ (HL.out.below ((boxed _ _).alloc (by simp) _))).mono ?_
  rintro e w1 ⟨rfl, hb⟩
  have HB := Lib.hid (up2 ((boxed _ _).alloc (by simp) _) hb)
  clear hb
  go_wp2_with fail
  go_ret2
  exact ⟨rfl, HB.out⟩
set_option maxHeartbeats 1000000 in
theorem of_low (K F day : Int) (H : Tells 7 #[.agg #[.int .i64 K, .int .i64 F]] (.int .i64 0)) (h : day < F) :
    Tells 13 #[.agg #[.int .i64 K, .int .i64 F], .int .i64 day] (.tuple #[.int .i64 0, .int .i64 1]) := by
  intro w hL
  have HL := Lib.hid hL
  have HH := Lib.hid H
  clear hL H
  go_enter Tryd.func13, Tryd.ntmps13
  go_wp2_with fail
  refine (HH.out _ (HL.out.below ((boxed _ _).alloc (by simp) _))).mono ?_
  rintro e w1 ⟨rfl, hb⟩
  have c1 : w1.cell? ⟨w.heap.size, 1, none⟩ = some (.int .i64 F) := kcell hb (by simp [go_sem])
  have d0 : w1.cell? ⟨w.heap.size + 1, 0, none⟩ = some (.int .i64 day) := kcell hb (by simp [go_sem])
  have HB := Lib.hid (up2 ((boxed _ _).alloc (by simp) _) hb)
  clear hb
  go_wp2_with fail
  go_ret2
  exact ⟨rfl, HB.out⟩

/-- what Of tells, of a day that isn't ahead of the first one -/
def OfPost (w : World) (g : Int → Int) (day : Int) (e : Ending) (w' : World) : Prop :=
  ((g 240 ≤ day ∧ e = .returned (.tuple #[.int .i64 0, .int .i64 1])) ∨ ∃ k : Int, 0 ≤ k ∧ k < 240 ∧ g k ≤ day ∧ day < g (k + 1) ∧ e = .returned (.tuple #[.int .i64 k, .int .i64 0])) ∧ Below w.heap.size w w'

set_option maxHeartbeats 2000000 in
theorem of_in (K F day : Int) (g : Int → Int) (w : World) (hL : Lg w) (h : Cal K F g) (h0 : F ≤ day) :
    Calls Tryd.prog 13 #[.agg #[.int .i64 K, .int .i64 F], .int .i64 day] w (OfPost w g day) := by
  have HL := Lib.hid hL
  have HH := Lib.hid (check_yes h)
  have HC := Lib.hid h
  clear hL h
  go_enter Tryd.func13, Tryd.ntmps13
  go_wp2_with fail
  refine (HH.out _ (HL.out.below ((boxed _ _).alloc (by simp) _))).mono ?_
  rintro e w1 ⟨rfl, hb⟩
  have c0 : w1.cell? ⟨w.heap.size, 0, none⟩ = some (.int .i64 K) := kcell hb (by simp [go_sem])
  have c1 : w1.cell? ⟨w.heap.size, 1, none⟩ = some (.int .i64 F) := kcell hb (by simp [go_sem])
  have d0 : w1.cell? ⟨w.heap.size + 1, 0, none⟩ = some (.int .i64 day) := kcell hb (by simp [go_sem])
  have HB := Lib.hid (up2 ((boxed _ _).alloc (by simp) _) hb)
  have HL1 := Lib.hid (HL.out.below HB.out)
  clear hb
  go_wp2_with fail
  refine (searchP_any K F day g _ _ w1 HL1.out c0 c1 d0 HC.out h0).mono ?_
  rintro e w2 ⟨k, k0, k1, k2, k3, rfl, hb⟩
  have HB2 := Lib.hid (up2 HB.out hb)
  have HK2 := Lib.hid k2
  have HK3 := Lib.hid k3
  clear hb k2 k3 c0 c1 d0 h0
  by_cases e : k = 240
  · subst e
    go_wp2_with fail
    go_ret2
    exact ⟨.inl ⟨HK2.out, rfl⟩, HB2.out⟩
  · have e' : (k == 240) = false := by simpa using e
    go_wp2_with fail
    go_ret2
    exact ⟨.inr ⟨k, k0, by omega, HK2.out, by rcases HK3.out with q | q; exact absurd q e; exact q, rfl⟩, HB2.out⟩

theorem of_high {K F day : Int} {g : Int → Int} (h : Cal K F g) (h0 : g 240 ≤ day) : Tells 13 #[.agg #[.int .i64 K, .int .i64 F], .int .i64 day] (.tuple #[.int .i64 0, .int .i64 1]) := by
  intro w hL
  have := h.1.mono (p := 0) (q := 240) (by omega) (by omega)
  rw [h.1.zero] at this
  refine (of_in K F day g w hL h (by omega)).mono ?_
  rintro e w' ⟨⟨_, rfl⟩ | ⟨k, k0, k1, k2, k3, rfl⟩, hb⟩
  · exact ⟨rfl, hb⟩
  · have := h.1.mono (p := k + 1) (q := 240) (by omega) (by omega); omega
theorem of_yes {K F day k : Int} {g : Int → Int} (h : Cal K F g) (k0 : 0 ≤ k) (k1 : k < 240) (k2 : g k ≤ day) (k3 : day < g (k + 1)) : Tells 13 #[.agg #[.int .i64 K, .int .i64 F], .int .i64 day] (.tuple #[.int .i64 k, .int .i64 0]) := by
  intro w hL
  have := h.1.mono (p := 0) (q := k) (by omega) k0
  rw [h.1.zero] at this
  refine (of_in K F day g w hL h (by omega)).mono ?_
  rintro e w' ⟨⟨h1, rfl⟩ | ⟨j, j0, j1, j2, j3, rfl⟩, hb⟩
  · have := h.1.mono (p := k + 1) (q := 240) (by omega) (by omega); omega
  · have : j = k := by
      by_cases a : j < k
      · have := h.1.mono (p := j + 1) (q := k) (by omega) (by omega); omega
      by_cases b : k < j
      · have := h.1.mono (p := k + 1) (q := j) (by omega) (by omega); omega
      omega
    subst this
    exact ⟨rfl, hb⟩
theorem of_before {K F day : Int} {g : Int → Int} (h : Cal K F g) (h0 : day < F) : Tells 13 #[.agg #[.int .i64 K, .int .i64 F], .int .i64 day] (.tuple #[.int .i64 0, .int .i64 1]) :=
  of_low K F day (check_yes h) h0
/-- where a day lies -/
theorem day_cases {K F : Int} {g : Int → Int} (h : Cal K F g) (day : Int) : day < F ∨ g 240 ≤ day ∨ ∃ k, 0 ≤ k ∧ k < 240 ∧ g k ≤ day ∧ day < g (k + 1) := by
  by_cases a : day < F
  · exact .inl a
  by_cases b : g 240 ≤ day
  · exact .inr (.inl b)
  obtain ⟨k, k0, k1, k2⟩ := climb (fun n => g n) (day + 1) 240 (by show g 0 < day + 1; rw [h.1.zero]; omega) (by show day + 1 ≤ g 240; omega)
  refine .inr (.inr ⟨k, by omega, by omega, by have : g k < day + 1 := k1; omega, ?_⟩)
  have : day + 1 ≤ g ((k + 1 : Nat) : Int) := k2
  rw [show ((k + 1 : Nat) : Int) = (k : Int) + 1 by omega] at this
  omega
end Go.Proofs.YtmodnkdgkdpacaaDoor
