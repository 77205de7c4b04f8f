/- The core of FiscalNext. -/
import Derived.Test.YtmodnkdgkdpacaaDoorFsAwake
namespace Go.Proofs.YtmodnkdgkdpacaaDoor
open Go.RowKit

set_option maxRecDepth 100000 in
set_option maxHeartbeats 2000000 in
theorem nx_none (K F p day : Int) (w : World) (hL : Lg w) (H : Tells 7 #[.agg #[.int .i64 K, .int .i64 F]] (.int .i64 1)) :
    Calls Tryd.prog 4 #[.agg #[.int .i64 K, .int .i64 F], .int .i64 p, .int .i64 day] w fun e w' => e = .returned (.bool true) ∧ Below w.heap.size w w' := by
  have HL := Lib.hid hL
  have HH := Lib.hid H
  clear hL H
  go_enter Tryd.func4, Tryd.ntmps4
  go_wp2_with fail
  refine (fs_awake _ (HL.out.below (boxed _ _))).mono ?_
  rintro e w1 ⟨rfl, hb⟩
  have c0 : w1.cell? ⟨w.heap.size, 0, none⟩ = some (.int .i64 K) := kcell hb (by simp [go_sem])
  have c1 : w1.cell? ⟨w.heap.size, 1, none⟩ = some (.int .i64 F) := kcell hb (by simp [go_sem])
  have HB := Lib.hid (up2 (boxed _ _) hb)
  clear hb
  go_wp2_with fail
  refine (HH.out w1 (HL.out.below HB.out)).mono ?_
  rintro e w2 ⟨rfl, hb⟩
  have HB2 := Lib.hid (up2 HB.out hb)
  clear hb
  go_wp2_with fail
  go_ret
  exact ⟨rfl, HB2.out⟩

set_option maxRecDepth 100000 in
set_option maxHeartbeats 2000000 in
theorem nx_out (K F p day : Int) (w : World) (hL : Lg w) (H : Tells 7 #[.agg #[.int .i64 K, .int .i64 F]] (.int .i64 0))
    (H1 : Tells 9 #[.agg #[.int .i64 K, .int .i64 F], .int .i64 p] (.tuple #[.int .i64 0, .int .i64 1]))
    (H2 : Tells 11 #[.agg #[.int .i64 K, .int .i64 F], .int .i64 p] (.tuple #[.int .i64 0, .int .i64 1]))
    (H3 : Tells 15 #[.agg #[.int .i64 K, .int .i64 F], .int .i64 p] (.int .i64 0)) :
    Calls Tryd.prog 4 #[.agg #[.int .i64 K, .int .i64 F], .int .i64 p, .int .i64 day] w fun e w' => e = .returned (.bool true) ∧ Below w.heap.size w w' := by
  have HL := Lib.hid hL
  have HH := Lib.hid H
  have HH1 := Lib.hid H1
  have HH2 := Lib.hid H2
  have HH3 := Lib.hid H3
  clear hL H H1 H2 H3
  go_enter Tryd.func4, Tryd.ntmps4
  go_wp2_with fail
  refine (fs_awake _ (HL.out.below (boxed _ _))).mono ?_
  rintro e w1 ⟨rfl, hb⟩
  have c0 : w1.cell? ⟨w.heap.size, 0, none⟩ = some (.int .i64 K) := kcell hb (by simp [go_sem])
  have c1 : w1.cell? ⟨w.heap.size, 1, none⟩ = some (.int .i64 F) := kcell hb (by simp [go_sem])
  have HB1 := Lib.hid (up2 (boxed _ _) hb)
  clear hb
  go_wp2_with fail
  refine (HH.out w1 (HL.out.below HB1.out)).mono ?_
  rintro e w2 ⟨rfl, hb⟩
  have d0 := kcell hb c0
  have d1 := kcell hb c1
  have HB2 := Lib.hid (up2 HB1.out hb)
  clear hb c0 c1
  go_wp2_with fail
  refine (HH1.out w2 (HL.out.below HB2.out)).mono ?_
  rintro e w3 ⟨rfl, hb⟩
  have c0 := kcell hb d0
  have c1 := kcell hb d1
  have HB3 := Lib.hid (up2 HB2.out hb)
  clear hb d0 d1
  go_wp2_with fail
  refine (HH2.out w3 (HL.out.below HB3.out)).mono ?_
  rintro e w4 ⟨rfl, hb⟩
  have d0 := kcell hb c0
  have d1 := kcell hb c1
  have HB4 := Lib.hid (up2 HB3.out hb)
  clear hb c0 c1
  go_wp2_with fail
  refine (HH3.out w4 (HL.out.below HB4.out)).mono ?_
  rintro e w5 ⟨rfl, hb⟩
  have HB5 := Lib.hid (up2 HB4.out hb)
  clear hb
  go_wp2_with fail
  go_ret
  exact ⟨rfl, HB5.out⟩

/-- what is told of a day behind, ahead, or in a period from A to B -/
def DayIn (p A B day k j : Int) : Prop := ((k == p) && (j == 0)) = (decide (A ≤ day) && decide (day ≤ B))

set_option maxRecDepth 100000 in
set_option maxHeartbeats 4000000 in
theorem nx_in (K F p day A B n i k j : Int) (w : World) (hL : Lg w) (H : Tells 7 #[.agg #[.int .i64 K, .int .i64 F]] (.int .i64 0))
    (H1 : Tells 9 #[.agg #[.int .i64 K, .int .i64 F], .int .i64 p] (.tuple #[.int .i64 A, .int .i64 0]))
    (H2 : Tells 11 #[.agg #[.int .i64 K, .int .i64 F], .int .i64 p] (.tuple #[.int .i64 B, .int .i64 0]))
    (H3 : Tells 13 #[.agg #[.int .i64 K, .int .i64 F], .int .i64 A] (.tuple #[.int .i64 p, .int .i64 0]))
    (H4 : Tells 13 #[.agg #[.int .i64 K, .int .i64 F], .int .i64 B] (.tuple #[.int .i64 p, .int .i64 0]))
    (H5 : Tells 15 #[.agg #[.int .i64 K, .int .i64 F], .int .i64 p] (.int .i64 (B - A + 1)))
    (H6 : Tells 9 #[.agg #[.int .i64 K, .int .i64 F], .int .i64 (p + 1)] (.tuple #[.int .i64 n, .int .i64 i]))
    (H7 : Tells 13 #[.agg #[.int .i64 K, .int .i64 F], .int .i64 day] (.tuple #[.int .i64 k, .int .i64 j]))
    (p0 : 0 ≤ p) (p1 : p < 240) (a0 : 1 ≤ A) (ab : A ≤ B) (b1 : B ≤ 999668)
    (N : (i = 0 ∧ n = B + 1) ∨ (i = 1 ∧ n = 0)) (D : DayIn p A B day k j) :
    Calls Tryd.prog 4 #[.agg #[.int .i64 K, .int .i64 F], .int .i64 p, .int .i64 day] w fun e w' => e = .returned (.bool true) ∧ Below w.heap.size w w' := by
  have HL := Lib.hid hL
  have HH := Lib.hid H
  have HH1 := Lib.hid H1
  have HH2 := Lib.hid H2
  have HH3 := Lib.hid H3
  have HH4 := Lib.hid H4
  have HH5 := Lib.hid H5
  have HH6 := Lib.hid H6
  have HH7 := Lib.hid H7
  have HN := Lib.hid N
  have HD := Lib.hid D
  clear hL H H1 H2 H3 H4 H5 H6 H7 N D
  go_enter Tryd.func4, Tryd.ntmps4
  go_wp2_with fail
  refine (fs_awake _ (HL.out.below (boxed _ _))).mono ?_
  rintro e w1 ⟨rfl, hb⟩
  have c0 : w1.cell? ⟨w.heap.size, 0, none⟩ = some (.int .i64 K) := kcell hb (by simp [go_sem])
  have c1 : w1.cell? ⟨w.heap.size, 1, none⟩ = some (.int .i64 F) := kcell hb (by simp [go_sem])
  have HB1 := Lib.hid (up2 (boxed _ _) hb)
  clear hb
  go_wp2_with fail
  refine (HH.out w1 (HL.out.below HB1.out)).mono ?_
  rintro e w2 ⟨rfl, hb⟩
  have d0 := kcell hb c0
  have d1 := kcell hb c1
  have HB2 := Lib.hid (up2 HB1.out hb)
  clear hb c0 c1
  go_wp2_with fail
  refine (HH1.out w2 (HL.out.below HB2.out)).mono ?_
  rintro e w3 ⟨rfl, hb⟩
  have c0 := kcell hb d0
  have c1 := kcell hb d1
  have HB3 := Lib.hid (up2 HB2.out hb)
  clear hb d0 d1
  go_wp2_with fail
  refine (HH2.out w3 (HL.out.below HB3.out)).mono ?_
  rintro e w4 ⟨rfl, hb⟩
  have d0 := kcell hb c0
  have d1 := kcell hb c1
  have HB4 := Lib.hid (up2 HB3.out hb)
  clear hb c0 c1
  go_wp2_with fail
  refine (HH3.out w4 (HL.out.below HB4.out)).mono ?_
  rintro e w5 ⟨rfl, hb⟩
  have c0 := kcell hb d0
  have c1 := kcell hb d1
  have HB5 := Lib.hid (up2 HB4.out hb)
  clear hb d0 d1
  go_wp2_with fail
  refine (HH4.out w5 (HL.out.below HB5.out)).mono ?_
  rintro e w6 ⟨rfl, hb⟩
  have d0 := kcell hb c0
  have d1 := kcell hb c1
  have HB6 := Lib.hid (up2 HB5.out hb)
  clear hb c0 c1
  go_wp2_with fail
  refine (HH5.out w6 (HL.out.below HB6.out)).mono ?_
  rintro e w7 ⟨rfl, hb⟩
  have c0 := kcell hb d0
  have c1 := kcell hb d1
  have HB7 := Lib.hid (up2 HB6.out hb)
  clear hb d0 d1
  go_wp2_with fail
  refine (HH6.out w7 (HL.out.below HB7.out)).mono ?_
  rintro e w8 ⟨rfl, hb⟩
  have d0 := kcell hb c0
  have d1 := kcell hb c1
  have HB8 := Lib.hid (up2 HB7.out hb)
  clear hb c0 c1
  rcases HN.out with ⟨rfl, rfl⟩ | ⟨rfl, rfl⟩
  all_goals
    clear HN
    go_wp2_with fail
    refine (HH7.out w8 (HL.out.below HB8.out)).mono ?_
    rintro e w9 ⟨rfl, hb⟩
    have HB9 := Lib.hid (up2 HB8.out hb)
    clear hb
    cases q1 : (k == p) <;> cases q2 : (j == 0) <;> cases q3 : decide (A ≤ day) <;> cases q4 : decide (day ≤ B)
  all_goals
    first
      | (exfalso; have z := HD.out; unfold DayIn at z; rw [q1, q2, q3, q4] at z; revert z; decide)
      | (clear HD; go_wp2_with fail; go_ret; exact ⟨rfl, HB9.out⟩)

theorem next_any (K F p day : Int) (w : World) (hL : Lg w) (hp : Am p) :
    Calls Tryd.prog 4 #[.agg #[.int .i64 K, .int .i64 F], .int .i64 p, .int .i64 day] w fun e w' => e = .returned (.bool true) ∧ Below w.heap.size w w' := by
  by_cases hC : ∃ g, Cal K F g
  · obtain ⟨g, h⟩ := hC
    by_cases hr : 0 ≤ p ∧ p < 240
    · obtain ⟨p0, p1⟩ := hr
      have b0 := h.bd p0 (by omega)
      have b1 := h.bd (p := p + 1) (by omega) (by omega)
      have st := h.1.step p0
      have HD := fdays_yes h p0 p1
      rw [show g (p + 1) - g p = g (p + 1) - 1 - g p + 1 by omega] at HD
      have A := first_yes h p0 p1
      have B := last_yes h p0 p1
      have CA := of_yes (day := g p) h p0 p1 (by omega) (by omega)
      have CB := of_yes (day := g (p + 1) - 1) h p0 p1 (by omega) (by omega)
      have hN : ∃ n i, Tells 9 #[.agg #[.int .i64 K, .int .i64 F], .int .i64 (p + 1)] (.tuple #[.int .i64 n, .int .i64 i]) ∧ ((i = 0 ∧ n = g (p + 1) - 1 + 1) ∨ (i = 1 ∧ n = 0)) := by
        by_cases l : p + 1 < 240
        · exact ⟨_, _, first_yes h (by omega) l, .inl ⟨rfl, by omega⟩⟩
        · exact ⟨_, _, first_no (by omega), .inr ⟨rfl, rfl⟩⟩
      obtain ⟨n, i, hn, hni⟩ := hN
      have hDay : ∃ k j, Tells 13 #[.agg #[.int .i64 K, .int .i64 F], .int .i64 day] (.tuple #[.int .i64 k, .int .i64 j]) ∧ DayIn p (g p) (g (p + 1) - 1) day k j := by
        unfold DayIn
        have m0 := h.1.mono (p := 0) (q := p) (by omega) p0
        have m1 := h.1.mono (p := p + 1) (q := 240) (by omega) (by omega)
        rw [h.1.zero] at m0
        rcases day_cases h day with a | a | ⟨k, k0, k1, k2, k3⟩
        · exact ⟨_, _, of_before h a, by rw [decide_eq_false (show ¬ g p ≤ day by omega)]; simp⟩
        · exact ⟨_, _, of_high h a, by rw [decide_eq_false (show ¬ day ≤ g (p + 1) - 1 by omega)]; simp⟩
        · refine ⟨_, _, of_yes h k0 k1 k2 k3, ?_⟩
          by_cases e : k = p
          · subst e; rw [decide_eq_true (show g k ≤ day by omega), decide_eq_true (show day ≤ g (k + 1) - 1 by omega)]; simp
          · have e' : (k == p) = false := by simpa using e
            rw [e']
            by_cases l : k < p
            · have := h.1.mono (p := k + 1) (q := p) (by omega) (by omega)
              rw [decide_eq_false (show ¬ g p ≤ day by omega)]; simp
            · have := h.1.mono (p := p + 1) (q := k) (by omega) (by omega)
              rw [decide_eq_false (show ¬ day ≤ g (p + 1) - 1 by omega)]; simp
      obtain ⟨k, j, hk, hkj⟩ := hDay
      exact nx_in K F p day (g p) (g (p + 1) - 1) n i k j w hL (check_yes h) A B CA CB HD hn hk p0 p1 (by omega) (by omega) (by omega) hni hkj
    · exact nx_out K F p day w hL (check_yes h) (first_no hr) (last_no hr) (fdays_no hr)
  · exact nx_none K F p day w hL (check_no hC)
end Go.Proofs.YtmodnkdgkdpacaaDoor
