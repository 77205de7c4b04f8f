/- Contracts: Over of any number. -/
import Derived.Test.YtobdcogaphkogaaOw
import Derived.Test.YtobdcogaphkogaaH
namespace Go.Proofs.Ytobdcogaphkogaa
open Go.RowKit

theorem over_floor {A b : Int} (hb : 1 ≤ b) : A / b = -((-A + b - 1) / b) := by
  have e := div_mul_add (-A + b - 1) b
  have h0 := Int.emod_nonneg (-A + b - 1) (b := b) (by omega)
  have h1 := Int.emod_lt_of_pos (-A + b - 1) (b := b) (by omega)
  exact (div_uniq (q := -((-A + b - 1) / b)) (r := b - 1 - (-A + b - 1) % b) (by omega) (by rw [Int.neg_mul]; omega) (by omega) (by omega)).1
theorem small_of_lim {x : Int} (h : Lim x) : Small x := sm1 h h.1 (Int.le_refl _)
theorem small_neg_of {x : Int} (h : Lim (-x)) : Small x := by have := small_neg (small_of_lim h); rw [Int.neg_neg] at this; exact this

set_option maxRecDepth 100000 in
set_option maxHeartbeats 1600000 in
theorem over_neg (s sb A b : Int) (x y : Option Addr) (l l2 c c2 : Nat) (w : World) (ha : Ex w s x l c A) (hb : Ex w sb y l2 c2 b) (hA0 : A < 0) (hA : Lim (-A)) (hL : Lim (-A + b)) (hL2 : Lim (-A + b - 1)) (hb1 : 1 ≤ b) (hB : Lim b) :
    Calls Try.prog 53 #[.agg #[.int .i64 s, .slice x l c], .agg #[.int .i64 sb, .slice y l2 c2]] w (ExPost w (A / b)) := by
  rw [over_floor hb1]
  have hs : s = -1 := by rw [ha.1]; exact Int.sign_eq_neg_one_of_neg hA0
  subst hs
  have HP := Lib.hid (phead_start w (.int .i64 (-1)) (.slice x l c) (.int .i64 sb) (.slice y l2 c2))
  have HA := Lib.hid ha; have HB := Lib.hid hb; have HLA := Lib.hid hA; have HL := Lib.hid hL; have HL2 := Lib.hid hL2; have HB1 := Lib.hid hb1; have HLB := Lib.hid hB
  clear ha hb hA hL hL2 hb1 hB hA0
  go_enter Try.func53, Try.ntmps53
  go_upto_region 1 with fail
  obtain ⟨W0, hW0⟩ : ∃ W0, W0 = (((w.alloc (.cells #[.int .i64 (-1), .slice x l c] 69)).alloc (.cells #[.int .i64 sb, .slice y l2 c2] 69)).alloc (.cells #[.int .i64 0, .slice none 0 0] 69)) := ⟨_, rfl⟩
  rw [← hW0] at HP
  rw [← hW0]
  clear hW0
  obtain ⟨_, hz3, c0, c1, d0, d1, _⟩ := HP.out
  go_wp2_with fail
  clear c0 c1 d0 d1 hz3
  go_region_held3 (fun w' => w'.cell? ⟨w.heap.size, 0, none⟩ = some (.int .i64 (-1)) ∧ w'.cell? ⟨w.heap.size, 1, none⟩ = some (.slice x l c) ∧ w'.cell? ⟨w.heap.size + 1, 0, none⟩ = some (.int .i64 sb) ∧ w'.cell? ⟨w.heap.size + 1, 1, none⟩ = some (.slice y l2 c2))
    ((change PQ w.heap.size _ _ _ _ _; with_reducible (first | exact HP.out.drew.pq | exact kP1.out.pq | exact kP2.out.pq | exact kP3.out.pq | exact kP4.out.pq | exact kP5.out.pq | exact kP6.out.pq | exact (kP6.out.pq.set _ _).set _ _)))
    (first | (go_at_call 64; ((with_reducible refine (neg_any (-1) A x l c _ (HA.out.below HP.out.drew.b)).mono ?_); rintro e w1 ⟨s1, x1, n1, p1, rfl, hE1, hb1⟩; have kE1 := Lib.hid hE1; have kP1 := Lib.hid (HP.out.drew.up hb1 HP.out.drew.sz); clear hE1 hb1)) | (go_at_call 30; ((with_reducible refine (plus_ex s1 sb (-A) b x1 y n1 l2 p1 c2 _ kE1.out (HB.out.below kP1.out.b) (small_of_lim HLA.out) (small_of_lim HLB.out)).mono ?_); rintro e w2 ⟨s2, x2, n2, p2, rfl, hE2, hb2⟩; have kE2 := Lib.hid hE2; have kP2 := Lib.hid (kP1.out.up hb2 kP1.out.sz); clear hE2 hb2)) | (go_at_call 29; ((with_reducible refine (of_any 1 _ (by decide) (by decide)).mono ?_); rintro e w3 ⟨s3, x3, n3, p3, rfl, hE3, hb3⟩; have kE3 := Lib.hid hE3; have kP3 := Lib.hid (kP2.out.up hb3 kP2.out.sz); have kE2b := Lib.hid (kE2.out.below hb3); clear hE3 hb3)) | (go_at_call 59; ((with_reducible refine (less_ex s2 s3 (-A + b) 1 x2 x3 n2 n3 p2 p3 _ kE2b.out kE3.out (small_of_lim HL.out) (small64 (by decide) (by decide))).mono ?_); rintro e w4 ⟨s4, x4, n4, p4, rfl, hE4, hb4⟩; have kE4 := Lib.hid hE4; have kP4 := Lib.hid (kP3.out.up hb4 kP3.out.sz); clear hE4 hb4)) | (go_at_call 53; ((with_reducible refine (over_nonneg s4 sb (-A + b - 1) b x4 y n4 l2 p4 c2 _ kE4.out (HB.out.below kP4.out.b) HL2.out HB1.out HLB.out).mono ?_); rintro e w5 ⟨s5, x5, n5, p5, rfl, hE5, hb5⟩; have kE5 := Lib.hid hE5; have kP5 := Lib.hid (kP4.out.up hb5 kP4.out.sz); clear hE5 hb5)) | (go_at_call 64; ((with_reducible refine (neg_any s5 ((-A + b - 1) / b) x5 n5 p5 _ kE5.out).mono ?_); rintro e w6 ⟨s6, x6, n6, p6, rfl, hE6, hb6⟩; have kE6 := Lib.hid hE6; have kP6 := Lib.hid (kP5.out.up hb6 kP5.out.sz); clear hE6 hb6; obtain ⟨r0, r1, f0, f1⟩ := kP6.out.2.2.2.2.2.2.1)))
  go_wp2_with fail
  exact bodyPost_ret (v := .agg #[.int .i64 s6, .slice x6 n6 p6]) (by simp [results, Try.results53, go_sem, r0, r1]) rfl
    ⟨s6, x6, n6, p6, rfl, ex_store kP6.out.2.2.2.2.2.2 kE6.out _ _, (kP6.out.1.setCell (by show w.heap.size ≤ w.heap.size + 1 + 1; omega) _).setCell (by show w.heap.size ≤ w.heap.size + 1 + 1; omega) _⟩

/-- numbers that may be divided here -/
def Lim2 (A : Int) : Prop := -85070591730234615865843651857942052864 ≤ A ∧ A ≤ 85070591730234615865843651857942052864
theorem lim_of {x : Int} (h0 : 0 ≤ x) (h : x ≤ 340282366920938463463374607431768211456) : Lim x := by
  refine ⟨h0, ?_⟩
  have h1 : (340282366920938463463374607431768211456 : Int) < 2 ^ 200 := by decide +kernel
  generalize (2 : Int) ^ 200 = P at *
  omega
theorem over_any (s sb A b : Int) (x y : Option Addr) (l l2 c c2 : Nat) (w : World) (ha : Ex w s x l c A) (hb : Ex w sb y l2 c2 b) (hA : Lim2 A) (hb1 : 1 ≤ b) (hb2 : b ≤ 9223372036854775807) :
    Calls Try.prog 53 #[.agg #[.int .i64 s, .slice x l c], .agg #[.int .i64 sb, .slice y l2 c2]] w (ExPost w (A / b)) := by
  obtain ⟨h1, h2⟩ := hA
  by_cases h0 : 0 ≤ A
  · exact over_nonneg s sb A b x y l l2 c c2 w ha hb (lim_of h0 (by omega)) hb1 (lim_of (by omega) (by omega))
  · exact over_neg s sb A b x y l l2 c c2 w ha hb (by omega) (lim_of (by omega) (by omega)) (lim_of (by omega) (by omega)) (lim_of (by omega) (by omega)) hb1 (lim_of (by omega) (by omega))
end Go.Proofs.Ytobdcogaphkogaa

namespace Go.Proofs.Ytobdcogaphkogaa
open Go.RowKit

theorem lim2_mul {a p : Int} (ha : Am a) (hp : 0 ≤ p) (hp2 : Am p) : Lim2 (a * p) := mul_bd ha.1 ha.2 hp hp2.2
theorem lim2_small {x : Int} (h : Lim2 x) : Small x := by
  obtain ⟨h1, h2⟩ := h
  by_cases h0 : 0 ≤ x
  · exact small_of_lim (lim_of h0 (by omega))
  · exact small_neg_of (lim_of (by omega) (by omega))
theorem lim2_div {x m : Int} (h : Lim2 x) (hm : 1 ≤ m) : Lim2 (x / m) := by
  have := div_bd (x := x) (B := 85070591730234615865843651857942052864) hm (by omega) h.1 h.2
  exact this
theorem lim2_back {x m : Int} (h : Lim2 x) (hm : 1 ≤ m) (hm2 : Am m) : Small (x / m * m) := by
  have e := div_mul_add x m
  have h0 := Int.emod_nonneg x (b := m) (by omega)
  have h1 := Int.emod_lt_of_pos x (b := m) (by omega)
  obtain ⟨l1, l2⟩ := h
  unfold Am at hm2
  by_cases hz : 0 ≤ x / m * m
  · exact small_of_lim (lim_of hz (by omega))
  · exact small_neg_of (lim_of (by omega) (by omega))

set_option maxHeartbeats 400000 in
theorem rpart_no (a part m : Int) (w : World) (h : m < 1 ∨ part < 0) :
    Calls Try.prog 37 #[.int .i64 a, .int .i64 part, .int .i64 m] w fun e w' => e = .returned (.tuple #[.int .i64 0, .int .i64 1]) ∧ w = w' := by
  by_cases d1 : m < 1
  · have e1 : decide (m < 1) = true := by simp; omega
    go_enter Try.func37, Try.ntmps37
    go_wp2_with fail
    go_ret2
    exact ⟨rfl, rfl⟩
  · have e1 : decide (m < 1) = false := by simp; omega
    have e2 : decide (part < 0) = true := by simp; omega
    clear h
    go_enter Try.func37, Try.ntmps37
    go_wp2_with fail
    go_ret2
    exact ⟨rfl, rfl⟩

set_option maxHeartbeats 800000 in
theorem rpart_any (a part m : Int) (w : World) (ha : Am a) (hp : 0 ≤ part) (hp2 : Am part) (hm : 1 ≤ m) (hm2 : Am m) :
    Calls Try.prog 37 #[.int .i64 a, .int .i64 part, .int .i64 m] w fun e w' => e = .returned (.tuple #[.int .i64 (tellV (a * part / m)), .int .i64 (tellE (a * part / m))]) ∧ Below w.heap.size w w' := by
  have HA := Lib.hid ha; have HP := Lib.hid hp2; have HM := Lib.hid hm2
  have d1 : decide (m < 1) = false := by simp; omega
  have d2 : decide (part < 0) = false := by simp; omega
  clear ha hp2 hm2
  go_enter Try.func37, Try.ntmps37
  go_wp2_with fail
  refine (of_any a _ HA.out.1 HA.out.2).mono ?_
  rintro _ w1 ⟨s1, x1, n1, p1, rfl, hE1, hb1⟩
  have B1 := Lib.hid hb1; have E1 := Lib.hid hE1
  clear hb1 hE1
  go_wp2_with fail
  refine (of_any part _ HP.out.1 HP.out.2).mono ?_
  rintro _ w2 ⟨s2, x2, n2, p2, rfl, hE2, hb2⟩
  have B2 := Lib.hid (B1.out.trans (hb2.mono B1.out.size)); have E2 := Lib.hid hE2; have E1b := Lib.hid (E1.out.below hb2)
  clear hb2 hE2 E1 B1
  go_wp2_with fail
  refine (by_ex s1 s2 a part x1 x2 n1 n2 p1 p2 _ E1b.out E2.out (small64 HA.out.1 HA.out.2) (small64 HP.out.1 HP.out.2)).mono ?_
  rintro _ w3 ⟨s3, x3, n3, p3, rfl, hE3, hb3⟩
  have B3 := Lib.hid (B2.out.trans (hb3.mono B2.out.size)); have E3 := Lib.hid hE3
  clear hb3 hE3 E1b E2 B2
  go_wp2_with fail
  refine (of_any m _ HM.out.1 HM.out.2).mono ?_
  rintro _ w4 ⟨s4, x4, n4, p4, rfl, hE4, hb4⟩
  have B4 := Lib.hid (B3.out.trans (hb4.mono B3.out.size)); have E4 := Lib.hid hE4; have E3b := Lib.hid (E3.out.below hb4)
  clear hb4 hE4 E3 B3
  go_wp2_with fail
  refine (over_any s3 s4 (a * part) m x3 x4 n3 n4 p3 p4 _ E3b.out E4.out (lim2_mul HA.out hp HP.out) hm HM.out.2).mono ?_
  rintro _ w5 ⟨s5, x5, n5, p5, rfl, hE5, hb5⟩
  have B5 := Lib.hid (B4.out.trans (hb5.mono B4.out.size)); have E5 := Lib.hid hE5
  clear hb5 hE5 E3b E4 B4
  go_wp2_with fail
  refine (fit_any s5 (a * part / m) x5 n5 p5 _ E5.out (lim2_small (lim2_div (lim2_mul HA.out hp HP.out) hm))).mono ?_
  rintro _ w6 ⟨rfl, hb6⟩
  have B6 := Lib.hid (B5.out.trans (hb6.mono B5.out.size))
  clear hb6 E5 B5
  go_wp2_with fail
  go_ret2
  exact ⟨rfl, B6.out⟩

/-- a number in its own block, all below kept -/
def BS (w W : World) (q : Nat) (s : Int) (x : Option Addr) (l c : Nat) (n : Int) : Prop := Below w.heap.size w W ∧ Box W q s x l c n
theorem BS.below {w W W' : World} {q : Nat} {s : Int} {x : Option Addr} {l c : Nat} {n : Int} (h : BS w W q s x l c n) (hb : Below W.heap.size W W') : BS w W' q s x l c n := ⟨h.1.trans (hb.mono h.1.size), h.2.below hb⟩
theorem BS.drew {w W : World} {q : Nat} {s : Int} {x : Option Addr} {l c : Nat} {n : Int} (h : BS w W q s x l c n) : BS w W.drew q s x l c n := h.below (Below.refl _ _).drew
theorem BS.q {w W : World} {q : Nat} {s : Int} {x : Option Addr} {l c : Nat} {n : Int} (h : BS w W q s x l c n) : FQ q W (.int .i64 s) (.slice x l c) := ⟨h.2.1.1, h.2.1.2.1⟩
theorem BS.ex {w W : World} {q : Nat} {s : Int} {x : Option Addr} {l c : Nat} {n : Int} (h : BS w W q s x l c n) : Ex W s x l c n := h.2.2.2
theorem BS.b {w W : World} {q : Nat} {s : Int} {x : Option Addr} {l c : Nat} {n : Int} (h : BS w W q s x l c n) : Below w.heap.size w W := h.1
theorem rest_is {x m : Int} : x - x / m * m = x % m := by have := div_mul_add x m; omega
theorem rest_small {x m : Int} (hm : 1 ≤ m) (hm2 : Am m) : Small (x - x / m * m) := by
  rw [rest_is]
  have h0 := Int.emod_nonneg x (b := m) (by omega)
  have h1 := Int.emod_lt_of_pos x (b := m) (by omega)
  unfold Am at hm2
  exact small64 (by omega) (by omega)
theorem tell_rest {x m : Int} (hm : 1 ≤ m) (hm2 : Am m) : tellV (x % m) = x % m ∧ tellE (x % m) = 0 := by
  have h0 := Int.emod_nonneg x (b := m) (by omega)
  have h1 := Int.emod_lt_of_pos x (b := m) (by omega)
  unfold Am at hm2
  constructor
  · unfold tellV; rw [if_pos (by omega)]
  · unfold tellE; rw [if_pos (by omega)]

end Go.Proofs.Ytobdcogaphkogaa
