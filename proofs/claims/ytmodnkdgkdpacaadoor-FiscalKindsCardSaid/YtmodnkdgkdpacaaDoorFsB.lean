/- Contracts: ends, Check, period, First, Last, Days. -/
import Derived.Test.YtmodnkdgkdpacaaDoorFsA
namespace Go.Proofs.YtmodnkdgkdpacaaDoor
open Go.RowKit

/-- what an arguments' call answers, in every world in which the table lies -/
def Tells (f : FuncId) (args : Array Value) (v : Value) : Prop := ∀ W, Lg W → Calls Tryd.prog f args W fun e w' => e = .returned v ∧ Below W.heap.size W w'

/-- a calendar's kinds of beginnings -/
theorem beg_cases (K F : Int) : ¬ (1 ≤ F ∧ F ≤ 999668) ∨ (∃ g, Beg K F g) ∨ (K = 0 ∧ ∃ y m d, Isd F y m d ∧ (d == 1) = false) ∨ (1 ≤ F ∧ F ≤ 999668 ∧ (K == 0) = false ∧ (K == 1) = false) := by
  by_cases h : 1 ≤ F ∧ F ≤ 999668
  · right
    by_cases k1 : K = 1
    · exact .inl ⟨_, .inl ⟨k1, h.1, h.2, rfl⟩⟩
    by_cases k0 : K = 0
    · obtain ⟨y, m, d, hI⟩ := isd_some h.1 h.2
      by_cases hd : d = 1
      · subst hd
        have b := mah_bd hI.1
        obtain ⟨⟨y1, y2, m1, m2, _, _⟩, hn⟩ := hI
        refine .inl ⟨_, .inr ⟨k0, mah y m, b.1, b.2, ?_, rfl⟩⟩
        unfold mnum mah
        rw [show ((y - 1) * 12 + m - 1) / 12 + 1 = y by omega, show ((y - 1) * 12 + m - 1) % 12 + 1 = m by omega, hn]
      · exact .inr (.inl ⟨k0, y, m, d, hI, by simpa using hd⟩)
    · exact .inr (.inr ⟨h.1, h.2, by simpa using k0, by simpa using k1⟩)
  · exact .inl h

theorem mb_beg {K F : Int} {g : Int → Int} (h : Beg K F g) : Tells 21 #[.agg #[.int .i64 K, .int .i64 F]] (.bool true) := by
  intro W hL
  rcases h with ⟨rfl, a, b, _⟩ | ⟨rfl, a, a1, a2, rfl, _⟩
  · exact mb_weeks F W hL a b
  · exact mb_months _ _ _ 1 true W hL (mnum_may a1 a2) (by decide)

set_option maxHeartbeats 1000000 in
theorem ends_weeks (F p a b c : Int) (w : World) (hL : Lg w) (H : Tells 33 #[.int .i64 F, .int .i64 p] (.tuple #[.int .i64 a, .int .i64 b, .int .i64 c])) :
    Calls Tryd.prog 22 #[.agg #[.int .i64 1, .int .i64 F], .int .i64 p] w fun e w' => e = .returned (.tuple #[.int .i64 a, .int .i64 b, .int .i64 c]) ∧ Below w.heap.size w w' := by
  have HL := Lib.hid hL
  have HH := Lib.hid H
  clear hL H
  go_enter Tryd.func22, Tryd.ntmps22
  go_wp2_with fail
  refine (HH.out _ (HL.out.below (boxed _ _))).mono ?_
  rintro e w1 ⟨rfl, hb⟩
  have HB := Lib.hid (up2 (boxed _ _) hb)
  clear hb
  go_wp2_with fail
  exact bodyPost_ret (v := .tuple #[.int .i64 a, .int .i64 b, .int .i64 c]) (by simp [results, Tryd.results22, go_sem]) rfl ⟨rfl, HB.out⟩
set_option maxHeartbeats 1000000 in
theorem ends_months (F p a b c : Int) (w : World) (hL : Lg w) (H : Tells 34 #[.int .i64 F, .int .i64 p] (.tuple #[.int .i64 a, .int .i64 b, .int .i64 c])) :
    Calls Tryd.prog 22 #[.agg #[.int .i64 0, .int .i64 F], .int .i64 p] w fun e w' => e = .returned (.tuple #[.int .i64 a, .int .i64 b, .int .i64 c]) ∧ Below w.heap.size w w' := by
  have HL := Lib.hid hL
  have HH := Lib.hid H
  clear hL H
  go_enter Tryd.func22, Tryd.ntmps22
  go_wp2_with fail
  refine (HH.out _ (HL.out.below (boxed _ _))).mono ?_
  rintro e w1 ⟨rfl, hb⟩
  have HB := Lib.hid (up2 (boxed _ _) hb)
  clear hb
  go_wp2_with fail
  exact bodyPost_ret (v := .tuple #[.int .i64 a, .int .i64 b, .int .i64 c]) (by simp [results, Tryd.results22, go_sem]) rfl ⟨rfl, HB.out⟩

theorem ends_yes {K F : Int} {g : Int → Int} (h : Beg K F g) {p : Int} (p0 : 0 ≤ p) (p1 : p ≤ 239) (hp : g (p + 1) ≤ 999669) :
    Tells 22 #[.agg #[.int .i64 K, .int .i64 F], .int .i64 p] (.tuple #[.int .i64 (g p), .int .i64 (g (p + 1) - 1), .int .i64 0]) := by
  intro W hL
  rcases h with ⟨rfl, a, b, rfl⟩ | ⟨rfl, a, a1, a2, rfl, rfl⟩
  · exact ends_weeks F p _ _ _ W hL fun W' h' => eow_yes F p W' h' a (by have : F + wk (p + 1) ≤ 999669 := hp; omega) p0 p1
  · have e : mnum (a + (p + 1)) ≤ 999669 := hp
    rw [mnum_in (by omega)] at e
    exact ends_months _ p _ _ _ W hL fun W' h' => eom_yes a p W' h' a1 a2 p0 (by omega)
theorem ends_no {K F : Int} {g : Int → Int} (h : Beg K F g) {p : Int} (p0 : 0 ≤ p) (p1 : p ≤ 239) (hp : 999669 < g (p + 1)) :
    Tells 22 #[.agg #[.int .i64 K, .int .i64 F], .int .i64 p] (.tuple #[.int .i64 0, .int .i64 0, .int .i64 1]) := by
  intro W hL
  rcases h with ⟨rfl, a, b, rfl⟩ | ⟨rfl, a, a1, a2, rfl, rfl⟩
  · exact ends_weeks F p _ _ _ W hL fun W' _ => eow_no F p W' a b (by have : 999669 < F + wk (p + 1) := hp; omega) p0 p1
  · have e : ¬ mnum (a + (p + 1)) ≤ 999669 := by have : 999669 < mnum (a + (p + 1)) := hp; omega
    rw [mnum_in (by omega)] at e
    exact ends_months _ p _ _ _ W hL fun W' h' => eom_no a p W' h' a1 a2 p0 p1 (by omega)

theorem check_false (K F : Int) (H : ∀ W, Lg W → Calls Tryd.prog 21 #[.agg #[.int .i64 K, .int .i64 F]] W fun e w' => e = .returned (.bool false) ∧ Below W.heap.size W w') :
    Tells 7 #[.agg #[.int .i64 K, .int .i64 F]] (.int .i64 1) := by
  intro w hL
  have HL := Lib.hid hL
  have HH := Lib.hid H
  clear hL H
  go_enter Tryd.func7, Tryd.ntmps7
  go_wp2_with fail
  refine (HH.out _ (HL.out.below (boxed _ _))).mono ?_
  rintro e w1 ⟨rfl, hb⟩
  have HB := Lib.hid (up2 (boxed _ _) hb)
  clear hb
  go_wp2_with fail
  go_ret
  exact ⟨rfl, HB.out⟩
set_option maxHeartbeats 1000000 in
theorem check_true (K F a b c : Int) (H : Tells 21 #[.agg #[.int .i64 K, .int .i64 F]] (.bool true)) (E : Tells 22 #[.agg #[.int .i64 K, .int .i64 F], .int .i64 239] (.tuple #[.int .i64 a, .int .i64 b, .int .i64 c])) :
    Tells 7 #[.agg #[.int .i64 K, .int .i64 F]] (.int .i64 c) := by
  intro w hL
  have HL := Lib.hid hL
  have HH := Lib.hid H
  have HE := Lib.hid E
  clear hL H E
  go_enter Tryd.func7, Tryd.ntmps7
  go_wp2_with fail
  refine (HH.out _ (HL.out.below (boxed _ _))).mono ?_
  rintro e w1 ⟨rfl, hb⟩
  have c0 : w1.cell? ⟨w.heap.size, 0, none⟩ = some (.int .i64 K) := kcell hb (by simp [go_sem])
  have c1 : w1.cell? ⟨w.heap.size, 1, none⟩ = some (.int .i64 F) := kcell hb (by simp [go_sem])
  have HB := Lib.hid (up2 (boxed _ _) hb)
  clear hb
  go_wp2_with fail
  refine (HE.out w1 (HL.out.below HB.out)).mono ?_
  rintro e w2 ⟨rfl, hb⟩
  have HB2 := Lib.hid (up2 HB.out hb)
  clear hb
  go_wp2_with fail
  go_ret
  exact ⟨rfl, HB2.out⟩

theorem check_yes {K F : Int} {g : Int → Int} (h : Cal K F g) : Tells 7 #[.agg #[.int .i64 K, .int .i64 F]] (.int .i64 0) :=
  check_true K F _ _ 0 (mb_beg h.1) (ends_yes h.1 (p := 239) (by omega) (by omega) h.2)
theorem check_no {K F : Int} (h : ¬ ∃ g, Cal K F g) : Tells 7 #[.agg #[.int .i64 K, .int .i64 F]] (.int .i64 1) := by
  rcases beg_cases K F with c | ⟨g, c⟩ | ⟨rfl, y, m, d, hI, hd⟩ | ⟨f1, f2, k0, k1⟩
  · exact check_false K F fun W _ => mb_none K F W c
  · have : ¬ g 240 ≤ 999669 := fun q => h ⟨g, c, q⟩
    exact check_true K F _ _ 1 (mb_beg c) (ends_no c (p := 239) (by omega) (by omega) (by show 999669 < g 240; omega))
  · exact check_false 0 F fun W hW => mb_months F y m d false W hW hI hd
  · exact check_false K F fun W hW => mb_else K F W hW f1 f2 k0 k1

theorem period_low (K F p : Int) (h : p < 0) : Tells 24 #[.agg #[.int .i64 K, .int .i64 F], .int .i64 p] (.tuple #[.int .i64 0, .int .i64 0, .int .i64 1]) := by
  intro w hL
  have HL := Lib.hid hL
  clear hL
  go_enter Tryd.func24, Tryd.ntmps24
  go_wp2_with fail
  exact bodyPost_ret (v := .tuple #[.int .i64 0, .int .i64 0, .int .i64 1]) (by simp [results, Tryd.results24, go_sem]) rfl ⟨rfl, boxed _ _⟩
theorem period_high (K F p : Int) (h0 : 0 ≤ p) (h : 240 ≤ p) : Tells 24 #[.agg #[.int .i64 K, .int .i64 F], .int .i64 p] (.tuple #[.int .i64 0, .int .i64 0, .int .i64 1]) := by
  intro w hL
  have HL := Lib.hid hL
  clear hL
  go_enter Tryd.func24, Tryd.ntmps24
  go_wp2_with fail
  exact bodyPost_ret (v := .tuple #[.int .i64 0, .int .i64 0, .int .i64 1]) (by simp [results, Tryd.results24, go_sem]) rfl ⟨rfl, boxed _ _⟩
theorem period_none (K F p : Int) (h0 : 0 ≤ p) (h1 : p < 240) (H : Tells 7 #[.agg #[.int .i64 K, .int .i64 F]] (.int .i64 1)) :
    Tells 24 #[.agg #[.int .i64 K, .int .i64 F], .int .i64 p] (.tuple #[.int .i64 0, .int .i64 0, .int .i64 1]) := by
  intro w hL
  have HL := Lib.hid hL
  have HH := Lib.hid H
  clear hL H
  go_enter Tryd.func24, Tryd.ntmps24
  go_wp2_with fail
  refine (HH.out _ (HL.out.below (boxed _ _))).mono ?_
  rintro e w1 ⟨rfl, hb⟩
  have HB := Lib.hid (up2 (boxed _ _) hb)
  clear hb
  go_wp2_with fail
  exact bodyPost_ret (v := .tuple #[.int .i64 0, .int .i64 0, .int .i64 1]) (by simp [results, Tryd.results24, go_sem]) rfl ⟨rfl, HB.out⟩
set_option maxHeartbeats 1000000 in
theorem period_some (K F p a b : Int) (h0 : 0 ≤ p) (h1 : p < 240) (H : Tells 7 #[.agg #[.int .i64 K, .int .i64 F]] (.int .i64 0))
    (E : Tells 22 #[.agg #[.int .i64 K, .int .i64 F], .int .i64 p] (.tuple #[.int .i64 a, .int .i64 b, .int .i64 0])) :
    Tells 24 #[.agg #[.int .i64 K, .int .i64 F], .int .i64 p] (.tuple #[.int .i64 a, .int .i64 b, .int .i64 0]) := by
  intro w hL
  have HL := Lib.hid hL
  have HH := Lib.hid H
  have HE := Lib.hid E
  clear hL H E
  go_enter Tryd.func24, Tryd.ntmps24
  go_wp2_with fail
  refine (HH.out _ (HL.out.below (boxed _ _))).mono ?_
  rintro e w1 ⟨rfl, hb⟩
  have c0 : w1.cell? ⟨w.heap.size, 0, none⟩ = some (.int .i64 K) := kcell hb (by simp [go_sem])
  have c1 : w1.cell? ⟨w.heap.size, 1, none⟩ = some (.int .i64 F) := kcell hb (by simp [go_sem])
  have HB := Lib.hid (up2 (boxed _ _) hb)
  clear hb
  go_wp2_with fail
  refine (HE.out w1 (HL.out.below HB.out)).mono ?_
  rintro e w2 ⟨rfl, hb⟩
  have HB2 := Lib.hid (up2 HB.out hb)
  clear hb
  go_wp2_with fail
  exact bodyPost_ret (v := .tuple #[.int .i64 a, .int .i64 b, .int .i64 0]) (by simp [results, Tryd.results24, go_sem]) rfl ⟨rfl, HB2.out⟩

theorem period_no {K F p : Int} (h : ¬ (0 ≤ p ∧ p < 240) ∨ ¬ ∃ g, Cal K F g) : Tells 24 #[.agg #[.int .i64 K, .int .i64 F], .int .i64 p] (.tuple #[.int .i64 0, .int .i64 0, .int .i64 1]) := by
  by_cases h0 : p < 0
  · exact period_low K F p h0
  by_cases h1 : 240 ≤ p
  · exact period_high K F p (by omega) h1
  rcases h with h | h
  · omega
  · exact period_none K F p (by omega) (by omega) (check_no h)
theorem period_yes {K F p : Int} {g : Int → Int} (h : Cal K F g) (h0 : 0 ≤ p) (h1 : p < 240) :
    Tells 24 #[.agg #[.int .i64 K, .int .i64 F], .int .i64 p] (.tuple #[.int .i64 (g p), .int .i64 (g (p + 1) - 1), .int .i64 0]) :=
  period_some K F p _ _ h0 h1 (check_yes h) (ends_yes h.1 h0 (by omega) (h.bd (p := p + 1) (by omega) (by omega)).2)

set_option maxHeartbeats 1000000 in
theorem first_any (K F p a b c : Int) (H : Tells 24 #[.agg #[.int .i64 K, .int .i64 F], .int .i64 p] (.tuple #[.int .i64 a, .int .i64 b, .int .i64 c])) :
    Tells 9 #[.agg #[.int .i64 K, .int .i64 F], .int .i64 p] (.tuple #[.int .i64 a, .int .i64 c]) := by
  intro w hL
  have HL := Lib.hid hL
  have HH := Lib.hid H
  clear hL H
  go_enter Tryd.func9, Tryd.ntmps9
  go_wp2_with fail
  refine (HH.out _ (HL.out.below (boxed _ _))).mono ?_
  rintro e w1 ⟨rfl, hb⟩
  have HB := Lib.hid (up2 (boxed _ _) hb)
  clear hb
  go_wp2_with fail
  go_ret2
  exact ⟨rfl, HB.out⟩
set_option maxHeartbeats 1000000 in
theorem last_any (K F p a b c : Int) (H : Tells 24 #[.agg #[.int .i64 K, .int .i64 F], .int .i64 p] (.tuple #[.int .i64 a, .int .i64 b, .int .i64 c])) :
    Tells 11 #[.agg #[.int .i64 K, .int .i64 F], .int .i64 p] (.tuple #[.int .i64 b, .int .i64 c]) := by
  intro w hL
  have HL := Lib.hid hL
  have HH := Lib.hid H
  clear hL H
  go_enter Tryd.func11, Tryd.ntmps11
  go_wp2_with fail
  refine (HH.out _ (HL.out.below (boxed _ _))).mono ?_
  rintro e w1 ⟨rfl, hb⟩
  have HB := Lib.hid (up2 (boxed _ _) hb)
  clear hb
  go_wp2_with fail
  go_ret2
  exact ⟨rfl, HB.out⟩
set_option maxHeartbeats 1000000 in
theorem fdays_none (K F p a b : Int) (H : Tells 24 #[.agg #[.int .i64 K, .int .i64 F], .int .i64 p] (.tuple #[.int .i64 a, .int .i64 b, .int .i64 1])) :
    Tells 15 #[.agg #[.int .i64 K, .int .i64 F], .int .i64 p] (.int .i64 0) := by
  intro w hL
  have HL := Lib.hid hL
  have HH := Lib.hid H
  clear hL H
  go_enter Tryd.func15, Tryd.ntmps15
  go_wp2_with fail
  refine (HH.out _ (HL.out.below (boxed _ _))).mono ?_
  rintro e w1 ⟨rfl, hb⟩
  have HB := Lib.hid (up2 (boxed _ _) hb)
  clear hb
  go_wp2_with fail
  go_ret
  exact ⟨rfl, HB.out⟩
set_option maxHeartbeats 1000000 in
theorem fdays_some (K F p a b : Int) (H : Tells 24 #[.agg #[.int .i64 K, .int .i64 F], .int .i64 p] (.tuple #[.int .i64 a, .int .i64 b, .int .i64 0])) (a0 : 0 ≤ a) (a1 : a ≤ 4000000) (b0 : 0 ≤ b) (b1 : b ≤ 4000000) :
    Tells 15 #[.agg #[.int .i64 K, .int .i64 F], .int .i64 p] (.int .i64 (b - a + 1)) := by
  intro w hL
  have HL := Lib.hid hL
  have HH := Lib.hid H
  clear hL H
  go_enter Tryd.func15, Tryd.ntmps15
  go_wp2_with fail
  refine (HH.out _ (HL.out.below (boxed _ _))).mono ?_
  rintro e w1 ⟨rfl, hb⟩
  have HB := Lib.hid (up2 (boxed _ _) hb)
  clear hb
  go_wp2_with fail
  go_ret
  exact ⟨rfl, HB.out⟩

theorem first_yes {K F p : Int} {g : Int → Int} (h : Cal K F g) (h0 : 0 ≤ p) (h1 : p < 240) : Tells 9 #[.agg #[.int .i64 K, .int .i64 F], .int .i64 p] (.tuple #[.int .i64 (g p), .int .i64 0]) :=
  first_any K F p _ _ _ (period_yes h h0 h1)
theorem first_no {K F p : Int} (h : ¬ (0 ≤ p ∧ p < 240)) : Tells 9 #[.agg #[.int .i64 K, .int .i64 F], .int .i64 p] (.tuple #[.int .i64 0, .int .i64 1]) :=
  first_any K F p _ _ _ (period_no (.inl h))
theorem last_yes {K F p : Int} {g : Int → Int} (h : Cal K F g) (h0 : 0 ≤ p) (h1 : p < 240) : Tells 11 #[.agg #[.int .i64 K, .int .i64 F], .int .i64 p] (.tuple #[.int .i64 (g (p + 1) - 1), .int .i64 0]) :=
  last_any K F p _ _ _ (period_yes h h0 h1)
theorem last_no {K F p : Int} (h : ¬ (0 ≤ p ∧ p < 240)) : Tells 11 #[.agg #[.int .i64 K, .int .i64 F], .int .i64 p] (.tuple #[.int .i64 0, .int .i64 1]) :=
  last_any K F p _ _ _ (period_no (.inl h))
theorem fdays_yes {K F p : Int} {g : Int → Int} (h : Cal K F g) (h0 : 0 ≤ p) (h1 : p < 240) : Tells 15 #[.agg #[.int .i64 K, .int .i64 F], .int .i64 p] (.int .i64 (g (p + 1) - g p)) := by
  have a := h.bd h0 (by omega)
  have b := h.bd (p := p + 1) (by omega) (by omega)
  have := fdays_some K F p _ _ (period_yes h h0 h1) (by omega) (by omega) (by omega) (by omega)
  rw [show g (p + 1) - 1 - g p + 1 = g (p + 1) - g p by omega] at this
  exact this
theorem fdays_no {K F p : Int} (h : ¬ (0 ≤ p ∧ p < 240)) : Tells 15 #[.agg #[.int .i64 K, .int .i64 F], .int .i64 p] (.int .i64 0) :=
  fdays_none K F p _ _ (period_no (.inl h))
end Go.Proofs.YtmodnkdgkdpacaaDoor
