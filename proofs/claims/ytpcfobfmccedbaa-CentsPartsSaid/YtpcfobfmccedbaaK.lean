/- Parts of a greater part are no less: the law's walk. -/
import Derived.Test.YtpcfobfmccedbaaJ
namespace Go.Proofs.Ytpcfobfmccedbaa
open Go.RowKit

def PartIs (a p m v e : Int) : Prop := ∀ w : World, Calls Try.prog 17 #[.int .i64 a, .int .i64 p, .int .i64 m] w fun x w' => x = .returned (.tuple #[.int .i64 v, .int .i64 e]) ∧ Below w.heap.size w w'
def RestIs (a p m v e : Int) : Prop := ∀ w : World, Calls Try.prog 19 #[.int .i64 a, .int .i64 p, .int .i64 m] w fun x w' => x = .returned (.tuple #[.int .i64 v, .int .i64 e]) ∧ Below w.heap.size w w'
def AddIs (a b v e : Int) : Prop := ∀ w : World, Calls Try.prog 8 #[.int .i64 a, .int .i64 b] w fun x w' => x = .returned (.tuple #[.int .i64 v, .int .i64 e]) ∧ Below w.heap.size w w'
def Am (a : Int) : Prop := -9223372036854775808 ≤ a ∧ a ≤ 9223372036854775807

theorem partIs_arg (a : Int) {p m : Int} (h : m < 1 ∨ p < 0) : PartIs a p m 0 1 := fun w =>
  (part_no a p m w h).mono fun _ _ ⟨he, hw⟩ => ⟨he, hw ▸ Below.refl _ _⟩
theorem partIs_ok {a p m : Int} (ha : Am a) (hp : 0 ≤ p) (hp2 : Am p) (hm : 1 ≤ m) (hm2 : Am m) (h : Am (a * p / m)) : PartIs a p m (a * p / m) 0 := fun w => by
  have g := part_any a p m w ha.1 ha.2 hp hp2.2 hm hm2.2
  unfold tellV tellE at g
  unfold Am at h
  rw [if_pos h, if_pos h] at g
  exact g
theorem partIs_over {a p m : Int} (ha : Am a) (hp : 0 ≤ p) (hp2 : Am p) (hm : 1 ≤ m) (hm2 : Am m) (h : ¬ Am (a * p / m)) : PartIs a p m 0 3 := fun w => by
  have g := part_any a p m w ha.1 ha.2 hp hp2.2 hm hm2.2
  unfold tellV tellE at g
  unfold Am at h
  rw [if_neg h, if_neg h] at g
  exact g
theorem partIs_all {a m : Int} (ha : Am a) (hm : 1 ≤ m) (hm2 : Am m) : PartIs a m m a 0 := by
  have e : a * m / m = a := Int.mul_ediv_cancel a (by omega)
  have h := partIs_ok (p := m) ha (by omega) hm2 hm hm2 (by rw [e]; exact ha)
  rw [e] at h
  exact h
theorem partIs_none {a m : Int} (ha : Am a) (hm : 1 ≤ m) (hm2 : Am m) : PartIs a 0 m 0 0 := by
  have e : a * 0 / m = 0 := by simp
  have h := partIs_ok (p := 0) ha (by omega) (by unfold Am; omega) hm hm2 (by rw [e]; unfold Am; omega)
  rw [e] at h
  exact h
theorem part_mono {a p q m : Int} (ha : 0 ≤ a) (hm : 1 ≤ m) (h : p ≤ q) : a * p / m ≤ a * q / m :=
  Int.ediv_le_ediv (by omega) (Int.mul_le_mul_of_nonneg_left h ha)

set_option maxRecDepth 100000 in
set_option maxHeartbeats 400000 in
/-- the whole is below 1 -/
theorem rises_arg (a p q m : Int) (w : World) (hm : m < 1) :
    Calls Try.prog 5 #[.int .i64 a, .int .i64 p, .int .i64 q, .int .i64 m] w fun e w' => e = .returned (.bool true) ∧ Below w.heap.size w w' := by
  have t1 : decide (1 ≤ m) = false := by simp; omega
  go_enter Try.func5, Try.ntmps5
  go_wp2_with fail
  refine (awake_any _).mono ?_
  rintro e w1 ⟨rfl, hb1⟩
  have B1 := Lib.hid hb1
  clear hb1
  go_wp2_with fail
  refine (part_no a p m _ (.inl hm)).mono ?_
  rintro e w2 ⟨rfl, rfl⟩
  go_wp2_with fail
  refine (part_no a q m _ (.inl hm)).mono ?_
  rintro e w3 ⟨rfl, rfl⟩
  go_wp2_with fail
  go_ret
  exact ⟨rfl, B1.out⟩

set_option maxRecDepth 100000 in
set_option maxHeartbeats 400000 in
/-- the whole is 1 or more: all cases, given what the four parts are -/
theorem rises_core (a p q m x y e f : Int) (w : World) (hm : 1 ≤ m) (h1 : PartIs a p m x e) (h2 : PartIs a q m y f) (h3 : PartIs a m m a 0) (h4 : PartIs a 0 m 0 0)
    (t1 : (e != 0) = true ∨ ((e != 0) = false ∧ ((f != 0) = true ∨ ((f != 0) = false ∧ (decide (a < 0) = true ∨ (decide (a < 0) = false ∧ ((decide (p ≤ q) = true ∧ decide (x ≤ y) = true) ∨ (decide (p ≤ q) = false ∧ decide (q < p) = true ∧ decide (y ≤ x) = true)))))))) :
    Calls Try.prog 5 #[.int .i64 a, .int .i64 p, .int .i64 q, .int .i64 m] w fun e w' => e = .returned (.bool true) ∧ Below w.heap.size w w' := by
  have t0 : decide (1 ≤ m) = true := by simp; omega
  rcases t1 with t1 | ⟨t1, t2 | ⟨t2, t3 | ⟨t3, ⟨t4, t5⟩ | ⟨t4, t5, t6⟩⟩⟩⟩
  all_goals
    go_enter Try.func5, Try.ntmps5
    go_wp2_with fail
    refine (awake_any _).mono ?_
    rintro _ w1 ⟨rfl, hb1⟩
    have B1 := Lib.hid hb1
    clear hb1
    go_wp2_with fail
    refine (h1 _).mono ?_
    rintro _ w2 ⟨rfl, hb2⟩
    have B2 := Lib.hid (B1.out.trans (hb2.mono B1.out.size))
    clear hb2 B1
    go_wp2_with fail
    refine (h2 _).mono ?_
    rintro _ w3 ⟨rfl, hb3⟩
    have B3 := Lib.hid (B2.out.trans (hb3.mono B2.out.size))
    clear hb3 B2
    go_wp2_with fail
    refine (h3 _).mono ?_
    rintro _ w4 ⟨rfl, hb4⟩
    have B4 := Lib.hid (B3.out.trans (hb4.mono B3.out.size))
    clear hb4 B3
    go_wp2_with fail
    refine (h4 _).mono ?_
    rintro _ w5 ⟨rfl, hb5⟩
    have B5 := Lib.hid (B4.out.trans (hb5.mono B4.out.size))
    clear hb5 B4
    go_wp2_with fail
    go_ret
    exact ⟨rfl, B5.out⟩

theorem rises_any (a p q m : Int) (w : World) (ha : Am a) (hp : Am p) (hq : Am q) (hm2 : Am m) :
    Calls Try.prog 5 #[.int .i64 a, .int .i64 p, .int .i64 q, .int .i64 m] w fun e w' => e = .returned (.bool true) ∧ Below w.heap.size w w' := by
  by_cases hm : m < 1
  · exact rises_arg a p q m w hm
  · have hm1 : 1 ≤ m := by omega
    have h3 := partIs_all ha hm1 hm2
    have h4 := partIs_none ha hm1 hm2
    have one : ((1 : Int) != 0) = true := by decide
    have three : ((3 : Int) != 0) = true := by decide
    have zero : ((0 : Int) != 0) = false := by decide
    have get : ∀ {u : Int}, Am u → (∃ e, (e != 0) = true ∧ PartIs a u m 0 e) ∨ (0 ≤ u ∧ PartIs a u m (a * u / m) 0) := by
      intro u hu
      by_cases h0 : u < 0
      · exact .inl ⟨1, one, partIs_arg a (.inr h0)⟩
      · by_cases h5 : Am (a * u / m)
        · exact .inr ⟨by omega, partIs_ok ha (by omega) hu hm1 hm2 h5⟩
        · exact .inl ⟨3, three, partIs_over ha (by omega) hu hm1 hm2 h5⟩
    rcases get hp with ⟨e, he, h1⟩ | ⟨hp0, h1⟩
    · rcases get hq with ⟨f, hf, h2⟩ | ⟨hq0, h2⟩
      · exact rises_core a p q m _ _ _ _ w hm1 h1 h2 h3 h4 (.inl he)
      · exact rises_core a p q m _ _ _ _ w hm1 h1 h2 h3 h4 (.inl he)
    · rcases get hq with ⟨f, hf, h2⟩ | ⟨hq0, h2⟩
      · exact rises_core a p q m _ _ _ _ w hm1 h1 h2 h3 h4 (.inr ⟨zero, .inl hf⟩)
      · refine rises_core a p q m _ _ _ _ w hm1 h1 h2 h3 h4 (.inr ⟨zero, .inr ⟨zero, ?_⟩⟩)
        by_cases h6 : a < 0
        · exact .inl (by simp; omega)
        · refine .inr ⟨by simp; omega, ?_⟩
          by_cases h7 : p ≤ q
          · exact .inl ⟨by simp; omega, by simp only [decide_eq_true_eq]; exact part_mono (by omega) hm1 h7⟩
          · exact .inr ⟨by simp; omega, by simp; omega, by simp only [decide_eq_true_eq]; exact part_mono (by omega) hm1 (by omega)⟩
end Go.Proofs.Ytpcfobfmccedbaa
