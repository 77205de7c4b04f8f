/- ConsiderSure. -/
import Derived.Test.YthogokflobnfpaaCoE
namespace Go.Proofs.Ythogokflobnfpaa
open Go.RowKit

theorem sure_none_all {f a b : Int} (hf : 0 ≤ f) (hA : Am f) (h1 : 1 ≤ b) (h2 : b ≤ 10000) : likE f [⟨a, 0⟩] b = 0 ∧ likV f [⟨a, 0⟩] b = f ∧ meaE f [⟨a, 0⟩] = 0 ∧ meaV f [⟨a, 0⟩] = f := by
  obtain ⟨e1, e2⟩ := sure_none (f := f) (a := a) h1 h2
  have hw : ∀ c : Int, 0 ≤ c → c ≤ 10000 → wrE f [⟨a, 0⟩] c = 0 := fun c c0 c1 => by
    unfold wrE
    rw [if_neg (by simp), if_neg (by omega), if_pos (by simp [mbB])]
  have hpr : pricE f = 0 := by
    unfold pricE
    rw [if_pos (by unfold Am at hA; simp [am64]; omega), if_neg (by omega)]
  have g1 : likE f [⟨a, 0⟩] b = 0 := by unfold likE; rw [hw b (by omega) h2, if_neg (by decide), e1, hpr]
  have g2 : meaE f [⟨a, 0⟩] = 0 := by unfold meaE; rw [hw 0 (by omega) (by omega), if_neg (by decide), e2, hpr]
  exact ⟨g1, by unfold likV; rw [if_pos g1, e1], g2, by unfold meaV; rw [if_pos g2, e2]⟩
theorem one_good {a c : Int} (h : Am a) (hc : Am c) : ∀ x ∈ [(⟨a, c⟩ : Mb)], mbG x := fun x hx => by
  rw [List.mem_singleton.1 hx]; exact ⟨h, hc⟩
set_option maxRecDepth 100000 in
set_option maxHeartbeats 8000000 in
theorem sure_law (w : World) (f a b : Int) (hf : Am f) (ha : Am a) :
    Calls Try.prog 5 #[.int .i64 f, .int .i64 a, .int .i64 b] w fun e w' => e = .returned (.bool true) ∧ Below w.heap.size w w' := by
  by_cases q : b < 1 ∨ 10000 < b ∨ f < 0
  · have key : decide (b < 1) = true ∨ (decide (b < 1) = false ∧ decide (10000 < b) = true) ∨ (decide (b < 1) = false ∧ decide (10000 < b) = false ∧ decide (f < 0) = true) := by
      simp only [decide_eq_true_eq, decide_eq_false_iff_not]; omega
    clear q hf ha
    rcases key with k1 | ⟨k1, k2⟩ | ⟨k1, k2, k3⟩
    all_goals
      go_enter Try.func5, Try.ntmps5
      go_wp2_with fail
      refine (awake_any12 _).mono ?_
      rintro e w1 ⟨rfl, hb⟩
      have HB := Lib.hid hb
      clear hb
      go_wp2_with fail
      go_ret
      exact ⟨rfl, HB.out⟩
  · have k1 : decide (b < 1) = false := decide_eq_false (by omega)
    have k2 : decide (10000 < b) = false := decide_eq_false (by omega)
    have k3 : decide (f < 0) = false := decide_eq_false (by omega)
    have cW : Am 10000 := am_small (by decide) (by decide)
    have c0 : Am 0 := am_small (by decide) (by decide)
    obtain ⟨s1, s2, s3⟩ := sure_all (f := f) (a := a) (b := b) (by omega) (by omega)
    obtain ⟨t1, t2, t3, t4⟩ := sure_none_all (f := f) (a := a) (b := b) (by omega) hf (by omega) (by omega)
    have H1 := Lib.hid (fun (W : World) (g : Nat) (h : MbA W (some ⟨g, 0, none⟩) [⟨a, 10000⟩]) => likely_any f b (some ⟨g, 0, none⟩) 1 1 [⟨a, 10000⟩] W rfl h hf (one_good ha cW))
    have H2 := Lib.hid (fun (W : World) (g : Nat) (h : MbA W (some ⟨g, 0, none⟩) [⟨a, 10000⟩]) => meanC_any f (some ⟨g, 0, none⟩) 1 1 [⟨a, 10000⟩] W rfl h hf (one_good ha cW))
    have H3 := Lib.hid (fun (W : World) (g : Nat) (h : MbA W (some ⟨g, 0, none⟩) [⟨a, 0⟩]) => likely_any f b (some ⟨g, 0, none⟩) 1 1 [⟨a, 0⟩] W rfl h hf (one_good ha c0))
    have H4 := Lib.hid (fun (W : World) (g : Nat) (h : MbA W (some ⟨g, 0, none⟩) [⟨a, 0⟩]) => meanC_any f (some ⟨g, 0, none⟩) 1 1 [⟨a, 0⟩] W rfl h hf (one_good ha c0))
    unfold CopR at H1 H2 H3 H4
    rw [← s1, ← s2] at H2
    rw [t1, t2] at H3
    rw [t3, t4] at H4
    have hfin : likE f [⟨a, 10000⟩] b = 0 → likV f [⟨a, 10000⟩] b = f + a := fun z => by unfold likV; rw [if_pos z, s3]
    obtain ⟨E, hE⟩ : ∃ E, E = likE f [⟨a, 10000⟩] b := ⟨_, rfl⟩
    obtain ⟨V, hV⟩ : ∃ V, V = likV f [⟨a, 10000⟩] b := ⟨_, rfl⟩
    rw [← hE, ← hV] at H1 H2 hfin
    have HMa := Lib.hid (fun (W : World) => mba_fresh W 26 [⟨a, 10000⟩] #[.int .i64 a, .int .i64 10000] rfl)
    have HMn := Lib.hid (fun (W : World) => mba_fresh W 26 [⟨a, 0⟩] #[.int .i64 a, .int .i64 0] rfl)
    have key : (E != 0) = true ∨ ((E != 0) = false ∧ wrap64 (V - a) = f) := by
      by_cases z : E = 0
      · have hv := hfin z
        refine .inr ⟨by simp [z], ?_⟩
        rw [hv, show f + a - a = f by omega]; exact IntWalk.wrap64_in _ hf
      · exact .inl (by simpa using z)
    clear hE hV hfin s1 s2 s3 t1 t2 t3 t4 cW c0 hf ha q
    rcases key with k4 | ⟨k4, k5⟩
    all_goals
      go_enter Try.func5, Try.ntmps5
      go_wp2_with fail
      refine (awake_any12 _).mono ?_
      rintro e w1 ⟨rfl, hb⟩
      have HB1 := Lib.hid hb
      clear hb
      go_wp2_with fail
      obtain ⟨W0, hW0⟩ : ∃ W0, W0 = w1.alloc (.cells #[.int .i64 a, .int .i64 10000] 26) := ⟨_, rfl⟩
      have hb0 : Below w1.heap.size w1 W0 := by rw [hW0]; exact boxed _ _
      have hs0 : W0.heap.size = w1.heap.size + 1 := by rw [hW0]; simp
      have hma := HMa.out w1
      have hmn := HMn.out W0
      rw [← hW0] at hma
      rw [← hW0]
      rw [hs0] at hmn
      obtain ⟨W1, hW1⟩ : ∃ W1, W1 = W0.alloc (.cells #[.int .i64 a, .int .i64 0] 26) := ⟨_, rfl⟩
      have hbx : Below W0.heap.size W0 W1 := by rw [hW1]; exact boxed _ _
      rw [← hW1] at hmn
      rw [← hW1]
      have HA1 := Lib.hid (hma.up hbx)
      have HN1 := Lib.hid hmn
      have HB2 := Lib.hid (up2 (up2 HB1.out hb0) hbx)
      obtain ⟨g, hg⟩ : ∃ g, g = w1.heap.size := ⟨_, rfl⟩
      rw [← hg] at HA1 HN1
      rw [← hg]
      clear hW0 hW1 hb0 hs0 hma hmn hbx hg HB1
      refine (H1.out _ _ HA1.out).mono ?_
      rintro e w2 ⟨rfl, hb⟩
      have HA2 := Lib.hid (HA1.out.up hb)
      have HN2 := Lib.hid (HN1.out.up hb)
      have HB3 := Lib.hid (up2 HB2.out hb)
      clear hb
      go_wp2_with fail
      refine (H2.out _ _ HA2.out).mono ?_
      rintro e w3 ⟨rfl, hb⟩
      have HN3 := Lib.hid (HN2.out.up hb)
      have HB4 := Lib.hid (up2 HB3.out hb)
      clear hb
      go_wp2_with fail
      refine (H3.out _ _ HN3.out).mono ?_
      rintro e w4 ⟨rfl, hb⟩
      have HN4 := Lib.hid (HN3.out.up hb)
      have HB5 := Lib.hid (up2 HB4.out hb)
      clear hb
      go_wp2_with fail
      refine (H4.out _ _ HN4.out).mono ?_
      rintro e w5 ⟨rfl, hb⟩
      have HB6 := Lib.hid (up2 HB5.out hb)
      clear hb
      go_wp2_with fail
      go_ret
      exact ⟨rfl, HB6.out⟩
end Go.Proofs.Ythogokflobnfpaa
