/- Two parts that are together the whole: the law's walk. -/
import Derived.Test.YtpcfobfmccedbaaK
namespace Go.Proofs.Ytpcfobfmccedbaa
open Go.RowKit

theorem addIs {a b : Int} (ha : Am a) (hb : Am b) : AddIs a b (tellV (a + b)) (tellE (a + b)) := fun w => add_any a b w ha.1 ha.2 hb.1 hb.2
theorem restIs {a p m : Int} (ha : Am a) (hp : 0 ≤ p) (hp2 : Am p) (hm : 1 ≤ m) (hm2 : Am m) : RestIs a p m (a * p % m) 0 := fun w => rest_any a p m w ha.1 ha.2 hp hp2.2 hm hm2.2

theorem part_fits {a p m : Int} (ha : Am a) (hp : 0 ≤ p) (hpm : p ≤ m) (hm : 1 ≤ m) : Am (a * p / m) := by
  have e : a * m / m = a := Int.mul_ediv_cancel a (by omega)
  have z : (0 : Int) / m = 0 := Int.zero_ediv m
  unfold Am at *
  by_cases h : 0 ≤ a
  · have h1 : 0 ≤ a * p := Int.mul_nonneg h hp
    have h2 : a * p ≤ a * m := Int.mul_le_mul_of_nonneg_left hpm h
    have h3 := Int.ediv_le_ediv (c := m) (by omega) h1
    have h4 := Int.ediv_le_ediv (c := m) (by omega) h2
    rw [e] at h4; rw [z] at h3
    omega
  · have h1 : a * p ≤ 0 := Int.mul_nonpos_of_nonpos_of_nonneg (by omega) hp
    have h2 : a * m ≤ a * p := Int.mul_le_mul_of_nonpos_left (by omega) hpm
    have h3 := Int.ediv_le_ediv (c := m) (by omega) h1
    have h4 := Int.ediv_le_ediv (c := m) (by omega) h2
    rw [e] at h4; rw [z] at h3
    omega

theorem other_zero {a p m : Int} (hm : 1 ≤ m) (h : a * p % m = 0) : a * (m - p) / m = a - a * p / m ∧ a * (m - p) % m = 0 := by
  have e := div_mul_add (a * p) m
  refine div_uniq (by omega) ?_ (by omega) (by omega)
  rw [Int.sub_mul, Int.mul_sub]; omega
theorem other_more {a p m : Int} (hm : 1 ≤ m) (h : 0 < a * p % m) : a * (m - p) / m = a - a * p / m - 1 ∧ a * (m - p) % m = m - a * p % m := by
  have e := div_mul_add (a * p) m
  have c := Int.emod_lt_of_pos (a * p) (b := m) (by omega)
  refine div_uniq (by omega) ?_ (by omega) (by omega)
  rw [Int.sub_mul, Int.sub_mul, Int.mul_sub]; omega

set_option maxRecDepth 100000 in
set_option maxHeartbeats 400000 in
/-- what isn't asked -/
theorem whole_not (a p m : Int) (w : World) (h : decide (m < 1) = true ∨ (decide (m < 1) = false ∧ (decide (p < 0) = true ∨ (decide (p < 0) = false ∧ decide (m < p) = true)))) :
    Calls Try.prog 6 #[.int .i64 a, .int .i64 p, .int .i64 m] w fun e w' => e = .returned (.bool true) ∧ Below w.heap.size w w' := by
  rcases h with t1 | ⟨t1, t2 | ⟨t2, t3⟩⟩
  all_goals
    go_enter Try.func6, Try.ntmps6
    go_wp2_with fail
    refine (awake_any _).mono ?_
    rintro _ w1 ⟨rfl, hb1⟩
    have B1 := Lib.hid hb1
    clear hb1
    go_wp2_with fail
    go_ret
    exact ⟨rfl, B1.out⟩

set_option maxRecDepth 100000 in
set_option maxHeartbeats 400000 in
theorem whole_core (a p m x y r s v i : Int) (w : World) (hm : 1 ≤ m) (hm2 : m ≤ 9223372036854775807) (hp : 0 ≤ p) (hpm : p ≤ m)
    (h1 : PartIs a p m x 0) (h2 : PartIs a (m - p) m y 0) (h3 : RestIs a p m r 0) (h4 : RestIs a (m - p) m s 0) (h5 : AddIs x y v i)
    (b1 : 0 ≤ r) (b2 : r < m) (b3 : 0 ≤ s) (b4 : s < m) (c1 : -9223372036854775808 ≤ a) (c2 : a ≤ 9223372036854775807)
    (t : ((i != 0) = true ∧ (a == -9223372036854775808) = true ∧ decide (0 < r) = true) ∨
      ((i != 0) = false ∧ (r == 0) = true ∧ (s == 0) = true ∧ (v == a) = true) ∨
      ((i != 0) = false ∧ (r == 0) = false ∧ decide (0 < r) = true ∧ (s == m - r) = true ∧ (v == a - 1) = true ∧ -9223372036854775807 ≤ a)) :
    Calls Try.prog 6 #[.int .i64 a, .int .i64 p, .int .i64 m] w fun e w' => e = .returned (.bool true) ∧ Below w.heap.size w w' := by
  have q1 : decide (m < 1) = false := by simp; omega
  have q2 : decide (p < 0) = false := by simp; omega
  have q3 : decide (m < p) = false := by simp; omega
  have q4 : decide (r < 0) = false := by simp; omega
  have q5 : decide (m ≤ r) = false := by simp; omega
  have q6 : decide (s < 0) = false := by simp; omega
  have q7 : decide (m ≤ s) = false := by simp; omega
  rcases t with ⟨t1, t2, t3⟩ | ⟨t1, t2, t3, t4⟩ | ⟨t1, t2, t3, t4, t5, t6⟩
  all_goals
    go_enter Try.func6, Try.ntmps6
    go_wp2_with fail
    refine (awake_any _).mono ?_
    rintro _ w1 ⟨rfl, hb1⟩
    have B1 := Lib.hid hb1
    clear hb1
    go_wp2_with fail
    refine (h1 _).mono ?_
    rintro _ w2 ⟨rfl, hb2⟩
    have B2 := Lib.hid (B1.out.trans (hb2.mono B1.out.size))
    clear hb2 B1
    go_wp2_with fail
    refine (h2 _).mono ?_
    rintro _ w3 ⟨rfl, hb3⟩
    have B3 := Lib.hid (B2.out.trans (hb3.mono B2.out.size))
    clear hb3 B2
    go_wp2_with fail
    refine (h3 _).mono ?_
    rintro _ w4 ⟨rfl, hb4⟩
    have B4 := Lib.hid (B3.out.trans (hb4.mono B3.out.size))
    clear hb4 B3
    go_wp2_with fail
    refine (h4 _).mono ?_
    rintro _ w5 ⟨rfl, hb5⟩
    have B5 := Lib.hid (B4.out.trans (hb5.mono B4.out.size))
    clear hb5 B4
    go_wp2_with fail
    refine (h5 _).mono ?_
    rintro _ w6 ⟨rfl, hb6⟩
    have B6 := Lib.hid (B5.out.trans (hb6.mono B5.out.size))
    clear hb6 B5
    go_wp2_with fail
    go_ret
    exact ⟨rfl, B6.out⟩

theorem whole_any (a p m : Int) (w : World) (ha : Am a) (hp : Am p) (hm2 : Am m) :
    Calls Try.prog 6 #[.int .i64 a, .int .i64 p, .int .i64 m] w fun e w' => e = .returned (.bool true) ∧ Below w.heap.size w w' := by
  by_cases q1 : m < 1
  · exact whole_not a p m w (.inl (by simp; omega))
  by_cases q2 : p < 0
  · exact whole_not a p m w (.inr ⟨by simp; omega, .inl (by simp; omega)⟩)
  by_cases q3 : m < p
  · exact whole_not a p m w (.inr ⟨by simp; omega, .inr ⟨by simp; omega, by simp; omega⟩⟩)
  have hm1 : 1 ≤ m := by omega
  have p0 : 0 ≤ p := by omega
  have pm : p ≤ m := by omega
  have hmp : Am (m - p) := by unfold Am at *; omega
  have f1 := part_fits ha p0 pm hm1
  have f2 := part_fits (p := m - p) ha (by omega) (by omega) hm1
  have h1 := partIs_ok ha p0 hp hm1 hm2 f1
  have h2 := partIs_ok ha (by omega) hmp hm1 hm2 f2
  have h3 := restIs ha p0 hp hm1 hm2
  have h4 := restIs ha (by omega) hmp hm1 hm2
  have h5 := addIs f1 f2
  have b1 := Int.emod_nonneg (a * p) (b := m) (by omega)
  have b2 := Int.emod_lt_of_pos (a * p) (b := m) (by omega)
  have b3 := Int.emod_nonneg (a * (m - p)) (b := m) (by omega)
  have b4 := Int.emod_lt_of_pos (a * (m - p)) (b := m) (by omega)
  refine whole_core a p m _ _ _ _ _ _ w hm1 hm2.2 p0 pm h1 h2 h3 h4 h5 b1 b2 b3 b4 ha.1 ha.2 ?_
  have ha' := ha
  unfold Am at ha'
  by_cases hr : a * p % m = 0
  · obtain ⟨e1, e2⟩ := other_zero hm1 hr
    have e3 : a * p / m + a * (m - p) / m = a := by omega
    have e4 : tellV a = a := by unfold tellV; rw [if_pos ha']
    have e5 : tellE a = 0 := by unfold tellE; rw [if_pos ha']
    rw [e3, e4, e5, e2, hr]
    exact .inr (.inl ⟨by decide, by decide, by decide, by simp⟩)
  · have hr' : 0 < a * p % m := by omega
    obtain ⟨e1, e2⟩ := other_more hm1 hr'
    have e3 : a * p / m + a * (m - p) / m = a - 1 := by omega
    rw [e3, e2]
    by_cases hl : a = -9223372036854775808
    · have e5 : tellE (a - 1) = 3 := by unfold tellE; rw [if_neg (by omega)]
      rw [e5]
      exact .inl ⟨by decide, by rw [hl]; decide, by simp only [decide_eq_true_eq]; exact hr'⟩
    · have e4 : tellV (a - 1) = a - 1 := by unfold tellV; rw [if_pos (by omega)]
      have e5 : tellE (a - 1) = 0 := by unfold tellE; rw [if_pos (by omega)]
      rw [e4, e5]
      exact .inr (.inr ⟨by decide, beq_eq_false_iff_ne.2 hr, by simp only [decide_eq_true_eq]; exact hr', by simp, by simp, by omega⟩)
end Go.Proofs.Ytpcfobfmccedbaa
