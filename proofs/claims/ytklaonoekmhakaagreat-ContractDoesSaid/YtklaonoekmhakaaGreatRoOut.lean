/- Contracts: Over of any number. -/
import Derived.Test.YtklaonoekmhakaaGreatOw
import Derived.Test.YtklaonoekmhakaaGreatI
import Derived.Test.YtklaonoekmhakaaGreatAlMath
namespace Go.Proofs.YtklaonoekmhakaaGreat
open Go.RowKit

theorem over_floor {A b : Int} (hb : 1 ≤ b) : A / b = -((-A + b - 1) / b) := by
  have e := div_mul_add (-A + b - 1) b
  have h0 := Int.emod_nonneg (-A + b - 1) (b := b) (by omega)
  have h1 := Int.emod_lt_of_pos (-A + b - 1) (b := b) (by omega)
  exact (div_uniq (q := -((-A + b - 1) / b)) (r := b - 1 - (-A + b - 1) % b) (by omega) (by rw [Int.neg_mul]; omega) (by omega) (by omega)).1
theorem small_of_lim {x : Int} (h : Lim x) : Small x := sm1 h h.1 (Int.le_refl _)
theorem small_neg_of {x : Int} (h : Lim (-x)) : Small x := by have := small_neg (small_of_lim h); rw [Int.neg_neg] at this; exact this

set_option maxRecDepth 100000 in
set_option maxHeartbeats 1600000 in
theorem over_neg (s sb A b : Int) (x y : Option Addr) (l l2 c c2 : Nat) (w : World) (ha : Ex w s x l c A) (hb : Ex w sb y l2 c2 b) (hA0 : A < 0) (hA : Lim (-A)) (hL : Lim (-A + b)) (hL2 : Lim (-A + b - 1)) (hb1 : 1 ≤ b) (hB : Lim b) :
    Calls Tryz.prog 114 #[.agg #[.int .i64 s, .slice x l c], .agg #[.int .i64 sb, .slice y l2 c2]] w (ExPost w (A / b)) := by
  rw [over_floor hb1]
  have hs : s = -1 := by rw [ha.1]; exact Int.sign_eq_neg_one_of_neg hA0
  subst hs
  have HP := Lib.hid (phead_start w (.int .i64 (-1)) (.slice x l c) (.int .i64 sb) (.slice y l2 c2))
  have HA := Lib.hid ha; have HB := Lib.hid hb; have HLA := Lib.hid hA; have HL := Lib.hid hL; have HL2 := Lib.hid hL2; have HB1 := Lib.hid hb1; have HLB := Lib.hid hB
  clear ha hb hA hL hL2 hb1 hB hA0
  go_enter Tryz.func114, Tryz.ntmps114
  go_upto_region 1 with fail
  obtain ⟨W0, hW0⟩ : ∃ W0, W0 = (((w.alloc (.cells #[.int .i64 (-1), .slice x l c] 135)).alloc (.cells #[.int .i64 sb, .slice y l2 c2] 135)).alloc (.cells #[.int .i64 0, .slice none 0 0] 135)) := ⟨_, rfl⟩
  rw [← hW0] at HP
  rw [← hW0]
  clear hW0
  obtain ⟨_, hz3, c0, c1, d0, d1, _⟩ := HP.out
  go_wp2_with fail
  clear c0 c1 d0 d1 hz3
  go_region_held3 (fun w' => w'.cell? ⟨w.heap.size, 0, none⟩ = some (.int .i64 (-1)) ∧ w'.cell? ⟨w.heap.size, 1, none⟩ = some (.slice x l c) ∧ w'.cell? ⟨w.heap.size + 1, 0, none⟩ = some (.int .i64 sb) ∧ w'.cell? ⟨w.heap.size + 1, 1, none⟩ = some (.slice y l2 c2))
    ((change PQ w.heap.size _ _ _ _ _; with_reducible (first | exact HP.out.drew.pq | exact kP1.out.pq | exact kP2.out.pq | exact kP3.out.pq | exact kP4.out.pq | exact kP5.out.pq | exact kP6.out.pq | exact (kP6.out.pq.set _ _).set _ _)))
    (first | (go_at_call 116; ((with_reducible refine (neg_any (-1) A x l c _ (HA.out.below HP.out.drew.b)).mono ?_); rintro e w1 ⟨s1, x1, n1, p1, rfl, hE1, hb1⟩; have kE1 := Lib.hid hE1; have kP1 := Lib.hid (HP.out.drew.up hb1 HP.out.drew.sz); clear hE1 hb1)) | (go_at_call 76; ((with_reducible refine (plus_ex s1 sb (-A) b x1 y n1 l2 p1 c2 _ kE1.out (HB.out.below kP1.out.b) (small_of_lim HLA.out) (small_of_lim HLB.out)).mono ?_); rintro e w2 ⟨s2, x2, n2, p2, rfl, hE2, hb2⟩; have kE2 := Lib.hid hE2; have kP2 := Lib.hid (kP1.out.up hb2 kP1.out.sz); clear hE2 hb2)) | (go_at_call 77; ((with_reducible refine (of_any 1 _ (by decide) (by decide)).mono ?_); rintro e w3 ⟨s3, x3, n3, p3, rfl, hE3, hb3⟩; have kE3 := Lib.hid hE3; have kP3 := Lib.hid (kP2.out.up hb3 kP2.out.sz); have kE2b := Lib.hid (kE2.out.below hb3); clear hE3 hb3)) | (go_at_call 81; ((with_reducible refine (less_ex s2 s3 (-A + b) 1 x2 x3 n2 n3 p2 p3 _ kE2b.out kE3.out (small_of_lim HL.out) (small64 (by decide) (by decide))).mono ?_); rintro e w4 ⟨s4, x4, n4, p4, rfl, hE4, hb4⟩; have kE4 := Lib.hid hE4; have kP4 := Lib.hid (kP3.out.up hb4 kP3.out.sz); clear hE4 hb4)) | (go_at_call 114; ((with_reducible refine (over_nonneg s4 sb (-A + b - 1) b x4 y n4 l2 p4 c2 _ kE4.out (HB.out.below kP4.out.b) HL2.out HB1.out HLB.out).mono ?_); rintro e w5 ⟨s5, x5, n5, p5, rfl, hE5, hb5⟩; have kE5 := Lib.hid hE5; have kP5 := Lib.hid (kP4.out.up hb5 kP4.out.sz); clear hE5 hb5)) | (go_at_call 116; ((with_reducible refine (neg_any s5 ((-A + b - 1) / b) x5 n5 p5 _ kE5.out).mono ?_); rintro e w6 ⟨s6, x6, n6, p6, rfl, hE6, hb6⟩; have kE6 := Lib.hid hE6; have kP6 := Lib.hid (kP5.out.up hb6 kP5.out.sz); clear hE6 hb6; obtain ⟨r0, r1, f0, f1⟩ := kP6.out.2.2.2.2.2.2.1)))
  go_wp2_with fail
  exact bodyPost_ret (v := .agg #[.int .i64 s6, .slice x6 n6 p6]) (by simp [results, Tryz.results114, go_sem, r0, r1]) rfl
    ⟨s6, x6, n6, p6, rfl, ex_store kP6.out.2.2.2.2.2.2 kE6.out _ _, (kP6.out.1.setCell (by show w.heap.size ≤ w.heap.size + 1 + 1; omega) _).setCell (by show w.heap.size ≤ w.heap.size + 1 + 1; omega) _⟩

/-- numbers that may be divided here -/
def Lim2 (A : Int) : Prop := -85070591730234615865843651857942052864 ≤ A ∧ A ≤ 85070591730234615865843651857942052864
theorem lim_of {x : Int} (h0 : 0 ≤ x) (h : x ≤ 340282366920938463463374607431768211456) : Lim x := by
  refine ⟨h0, ?_⟩
  have h1 : (340282366920938463463374607431768211456 : Int) < 2 ^ 200 := by decide +kernel
  generalize (2 : Int) ^ 200 = P at *
  omega
theorem over_any (s sb A b : Int) (x y : Option Addr) (l l2 c c2 : Nat) (w : World) (ha : Ex w s x l c A) (hb : Ex w sb y l2 c2 b) (hA : Lim2 A) (hb1 : 1 ≤ b) (hb2 : b ≤ 9223372036854775807) :
    Calls Tryz.prog 114 #[.agg #[.int .i64 s, .slice x l c], .agg #[.int .i64 sb, .slice y l2 c2]] w (ExPost w (A / b)) := by
  obtain ⟨h1, h2⟩ := hA
  by_cases h0 : 0 ≤ A
  · exact over_nonneg s sb A b x y l l2 c c2 w ha hb (lim_of h0 (by omega)) hb1 (lim_of (by omega) (by omega))
  · exact over_neg s sb A b x y l l2 c c2 w ha hb (by omega) (lim_of (by omega) (by omega)) (lim_of (by omega) (by omega)) (lim_of (by omega) (by omega)) hb1 (lim_of (by omega) (by omega))
end Go.Proofs.YtklaonoekmhakaaGreat

namespace Go.Proofs.YtklaonoekmhakaaGreat
open Go.RowKit

theorem lim2_mul {a p : Int} (ha : Am a) (hp : 0 ≤ p) (hp2 : Am p) : Lim2 (a * p) := mul_bd ha.1 ha.2 hp hp2.2
theorem lim2_small {x : Int} (h : Lim2 x) : Small x := by
  obtain ⟨h1, h2⟩ := h
  by_cases h0 : 0 ≤ x
  · exact small_of_lim (lim_of h0 (by omega))
  · exact small_neg_of (lim_of (by omega) (by omega))
theorem lim2_div {x m : Int} (h : Lim2 x) (hm : 1 ≤ m) : Lim2 (x / m) := by
  have := div_bd (x := x) (B := 85070591730234615865843651857942052864) hm (by omega) h.1 h.2
  exact this
theorem lim2_back {x m : Int} (h : Lim2 x) (hm : 1 ≤ m) (hm2 : Am m) : Small (x / m * m) := by
  have e := div_mul_add x m
  have h0 := Int.emod_nonneg x (b := m) (by omega)
  have h1 := Int.emod_lt_of_pos x (b := m) (by omega)
  obtain ⟨l1, l2⟩ := h
  unfold Am at hm2
  by_cases hz : 0 ≤ x / m * m
  · exact small_of_lim (lim_of hz (by omega))
  · exact small_neg_of (lim_of (by omega) (by omega))

set_option maxHeartbeats 800000 in
theorem rpart_any (a part m : Int) (w : World) (ha : Am a) (hp : 0 ≤ part) (hp2 : Am part) (hm : 1 ≤ m) (hm2 : Am m) :
    Calls Tryz.prog 79 #[.int .i64 a, .int .i64 part, .int .i64 m] w fun e w' => e = .returned (.tuple #[.int .i64 (tellV (a * part / m)), .int .i64 (tellE (a * part / m))]) ∧ Below w.heap.size w w' := by
  have HA := Lib.hid ha; have HP := Lib.hid hp2; have HM := Lib.hid hm2
  have d1 : decide (m < 1) = false := by simp; omega
  have d2 : decide (part < 0) = false := by simp; omega
  clear ha hp2 hm2
  go_enter Tryz.func79, Tryz.ntmps79
  go_wp2_with fail
  refine (of_any a _ HA.out.1 HA.out.2).mono ?_
  rintro _ w1 ⟨s1, x1, n1, p1, rfl, hE1, hb1⟩
  have B1 := Lib.hid hb1; have E1 := Lib.hid hE1
  clear hb1 hE1
  go_wp2_with fail
  refine (of_any part _ HP.out.1 HP.out.2).mono ?_
  rintro _ w2 ⟨s2, x2, n2, p2, rfl, hE2, hb2⟩
  have B2 := Lib.hid (B1.out.trans (hb2.mono B1.out.size)); have E2 := Lib.hid hE2; have E1b := Lib.hid (E1.out.below hb2)
  clear hb2 hE2 E1 B1
  go_wp2_with fail
  refine (by_ex s1 s2 a part x1 x2 n1 n2 p1 p2 _ E1b.out E2.out (small64 HA.out.1 HA.out.2) (small64 HP.out.1 HP.out.2)).mono ?_
  rintro _ w3 ⟨s3, x3, n3, p3, rfl, hE3, hb3⟩
  have B3 := Lib.hid (B2.out.trans (hb3.mono B2.out.size)); have E3 := Lib.hid hE3
  clear hb3 hE3 E1b E2 B2
  go_wp2_with fail
  refine (of_any m _ HM.out.1 HM.out.2).mono ?_
  rintro _ w4 ⟨s4, x4, n4, p4, rfl, hE4, hb4⟩
  have B4 := Lib.hid (B3.out.trans (hb4.mono B3.out.size)); have E4 := Lib.hid hE4; have E3b := Lib.hid (E3.out.below hb4)
  clear hb4 hE4 E3 B3
  go_wp2_with fail
  refine (over_any s3 s4 (a * part) m x3 x4 n3 n4 p3 p4 _ E3b.out E4.out (lim2_mul HA.out hp HP.out) hm HM.out.2).mono ?_
  rintro _ w5 ⟨s5, x5, n5, p5, rfl, hE5, hb5⟩
  have B5 := Lib.hid (B4.out.trans (hb5.mono B4.out.size)); have E5 := Lib.hid hE5
  clear hb5 hE5 E3b E4 B4
  go_wp2_with fail
  refine (fit_any s5 (a * part / m) x5 n5 p5 _ E5.out (lim2_small (lim2_div (lim2_mul HA.out hp HP.out) hm))).mono ?_
  rintro _ w6 ⟨rfl, hb6⟩
  have B6 := Lib.hid (B5.out.trans (hb6.mono B5.out.size))
  clear hb6 E5 B5
  go_wp2_with fail
  go_ret2
  exact ⟨rfl, B6.out⟩

/-- a number in its own block, all below kept -/
def BS (w W : World) (q : Nat) (s : Int) (x : Option Addr) (l c : Nat) (n : Int) : Prop := Below w.heap.size w W ∧ Box W q s x l c n
theorem BS.below {w W W' : World} {q : Nat} {s : Int} {x : Option Addr} {l c : Nat} {n : Int} (h : BS w W q s x l c n) (hb : Below W.heap.size W W') : BS w W' q s x l c n := ⟨h.1.trans (hb.mono h.1.size), h.2.below hb⟩
theorem BS.drew {w W : World} {q : Nat} {s : Int} {x : Option Addr} {l c : Nat} {n : Int} (h : BS w W q s x l c n) : BS w W.drew q s x l c n := h.below (Below.refl _ _).drew
theorem BS.q {w W : World} {q : Nat} {s : Int} {x : Option Addr} {l c : Nat} {n : Int} (h : BS w W q s x l c n) : FQ q W (.int .i64 s) (.slice x l c) := ⟨h.2.1.1, h.2.1.2.1⟩
theorem BS.ex {w W : World} {q : Nat} {s : Int} {x : Option Addr} {l c : Nat} {n : Int} (h : BS w W q s x l c n) : Ex W s x l c n := h.2.2.2
theorem BS.b {w W : World} {q : Nat} {s : Int} {x : Option Addr} {l c : Nat} {n : Int} (h : BS w W q s x l c n) : Below w.heap.size w W := h.1
theorem rest_is {x m : Int} : x - x / m * m = x % m := by have := div_mul_add x m; omega
theorem rest_small {x m : Int} (hm : 1 ≤ m) (hm2 : Am m) : Small (x - x / m * m) := by
  rw [rest_is]
  have h0 := Int.emod_nonneg x (b := m) (by omega)
  have h1 := Int.emod_lt_of_pos x (b := m) (by omega)
  unfold Am at hm2
  exact small64 (by omega) (by omega)
theorem tell_rest {x m : Int} (hm : 1 ≤ m) (hm2 : Am m) : tellV (x % m) = x % m ∧ tellE (x % m) = 0 := by
  have h0 := Int.emod_nonneg x (b := m) (by omega)
  have h1 := Int.emod_lt_of_pos x (b := m) (by omega)
  unfold Am at hm2
  constructor
  · unfold tellV; rw [if_pos (by omega)]
  · unfold tellE; rw [if_pos (by omega)]

set_option maxRecDepth 100000 in
set_option maxHeartbeats 1600000 in
theorem rrest_any (a part m : Int) (w : World) (ha : Am a) (hp : 0 ≤ part) (hp2 : Am part) (hm : 1 ≤ m) (hm2 : Am m) :
    Calls Tryz.prog 117 #[.int .i64 a, .int .i64 part, .int .i64 m] w fun e w' => e = .returned (.tuple #[.int .i64 (a * part % m), .int .i64 0]) ∧ Below w.heap.size w w' := by
  have HA := Lib.hid ha; have HP := Lib.hid hp2; have HM := Lib.hid hm2; have HMM := Lib.hid hm; have HPP := Lib.hid hp
  have d1 : decide (m < 1) = false := by simp; omega
  have d2 : decide (part < 0) = false := by simp; omega
  obtain ⟨m1, m2⟩ := hm2
  clear ha hp2 hm hp
  go_enter Tryz.func117, Tryz.ntmps117
  go_wp2_with fail
  refine (of_any a _ HA.out.1 HA.out.2).mono ?_
  rintro _ w1 ⟨s1, x1, n1, p1, rfl, hE1, hb1⟩
  have B1 := Lib.hid hb1; have E1 := Lib.hid hE1
  clear hb1 hE1
  go_wp2_with fail
  refine (of_any part _ HP.out.1 HP.out.2).mono ?_
  rintro _ w2 ⟨s2, x2, n2, p2, rfl, hE2, hb2⟩
  have B2 := Lib.hid (B1.out.trans (hb2.mono B1.out.size)); have E2 := Lib.hid hE2; have E1b := Lib.hid (E1.out.below hb2)
  clear hb2 hE2 E1 B1
  go_wp2_with fail
  refine (by_ex s1 s2 a part x1 x2 n1 n2 p1 p2 _ E1b.out E2.out (small64 HA.out.1 HA.out.2) (small64 HP.out.1 HP.out.2)).mono ?_
  rintro _ w3 ⟨s3, x3, n3, p3, rfl, hE3, hb3⟩
  have B3 := Lib.hid (B2.out.trans (hb3.mono B2.out.size)); have E3 := Lib.hid hE3
  clear hb3 hE3 E1b E2 B2
  go_wp2_with fail
  have HS : Hid (BS w (w3.alloc (.cells #[.int .i64 s3, .slice x3 n3 p3] 135)) w3.heap.size s3 x3 n3 p3 (a * part)) := ⟨B3.out.alloc B3.out.size _, Box.new w3 E3.out⟩
  obtain ⟨W0, hW0⟩ : ∃ W0, W0 = w3.alloc (.cells #[.int .i64 s3, .slice x3 n3 p3] 135) := ⟨_, rfl⟩
  rw [← hW0] at HS
  rw [← hW0]
  obtain ⟨q, hq⟩ : ∃ q, q = w3.heap.size := ⟨_, rfl⟩
  rw [← hq] at HS
  rw [← hq]
  clear hW0 hq B3 E3
  go_region_held3 (fun w' => w'.cell? ⟨q, 0, none⟩ = some (.int .i64 s3) ∧ w'.cell? ⟨q, 1, none⟩ = some (.slice x3 n3 p3))
    ((change FQ q _ _ _; with_reducible (first | exact HS.out.drew.q | exact k4.out.q | exact k5.out.q | exact k6.out.q | exact k7.out.q | exact k8.out.q | exact k9.out.q)))
    (first | (go_at_call 77; ((with_reducible refine (of_any m _ m1 m2).mono ?_); rintro e w4 ⟨s4, x4, n4, p4, rfl, hE4, hb4⟩; with_reducible have k4 := Lib.hid (HS.out.drew.below hb4); have e4 := Lib.hid hE4; clear hE4 hb4)) | (go_at_call 114; ((with_reducible refine (over_any s3 s4 (a * part) m x3 x4 n3 n4 p3 p4 _ k4.out.ex e4.out (lim2_mul HA.out HPP.out HP.out) HMM.out m2).mono ?_); rintro e w5 ⟨s5, x5, n5, p5, rfl, hE5, hb5⟩; have k5 := Lib.hid (k4.out.below hb5); have e5 := Lib.hid hE5; clear hE5 hb5)) | (go_at_call 77; ((with_reducible refine (of_any m _ m1 m2).mono ?_); rintro e w6 ⟨s6, x6, n6, p6, rfl, hE6, hb6⟩; have k6 := Lib.hid (k5.out.below hb6); have e5b := Lib.hid (e5.out.below hb6); have e6 := Lib.hid hE6; clear hE6 hb6)) | (go_at_call 115; ((with_reducible refine (by_ex s5 s6 (a * part / m) m x5 x6 n5 n6 p5 p6 _ e5b.out e6.out (lim2_small (lim2_div (lim2_mul HA.out HPP.out HP.out) HMM.out)) (small64 m1 m2)).mono ?_); rintro e w7 ⟨s7, x7, n7, p7, rfl, hE7, hb7⟩; have k7 := Lib.hid (k6.out.below hb7); have e7 := Lib.hid hE7; clear hE7 hb7)) | (go_at_call 81; ((with_reducible refine (less_ex s3 s7 (a * part) (a * part / m * m) x3 x7 n3 n7 p3 p7 _ k7.out.ex e7.out (lim2_small (lim2_mul HA.out HPP.out HP.out)) (lim2_back (lim2_mul HA.out HPP.out HP.out) HMM.out HM.out)).mono ?_); rintro e w8 ⟨s8, x8, n8, p8, rfl, hE8, hb8⟩; have k8 := Lib.hid (k7.out.below hb8); have e8 := Lib.hid hE8; clear hE8 hb8)) | (go_at_call 75; ((with_reducible refine (fit_any s8 (a * part - a * part / m * m) x8 n8 p8 _ e8.out (rest_small HMM.out HM.out)).mono ?_); rintro e w9 ⟨he9, hb9⟩; rw [rest_is, (tell_rest HMM.out HM.out).1, (tell_rest HMM.out HM.out).2] at he9; subst he9; have k9 := Lib.hid (k8.out.below hb9); clear hb9)))
  go_wp2_with fail
  go_ret2
  exact ⟨rfl, k9.out.b⟩
end Go.Proofs.YtklaonoekmhakaaGreat

namespace Go.Proofs.YtklaonoekmhakaaGreat
open Go.RowKit

/-- the marks told so far -/
def valsTo (f : Nat → Int) (k : Nat) : List Value := (List.range k).map fun t => Value.int .i64 (f t)
theorem valsTo_step (f : Nat → Int) (k : Nat) : valsTo f (k + 1) = valsTo f k ++ [.int .i64 (f k)] := by
  unfold valsTo; rw [List.range_succ, List.map_append]; rfl
theorem valsTo_get (f : Nat → Int) {k j : Nat} (h : j < k) : (valsTo f k)[j]? = some (.int .i64 (f j)) := by
  unfold valsTo; rw [List.getElem?_map, List.getElem?_range h]; rfl
theorem vals_ints {W : World} {B m : Nat} {e : TypeId} {v : Value} {h : Nat → Int} (hm : 0 < m) (o : W.ownsRow B e 1 v m (valsTo h m)) : ∃ g c, v = .slice (some ⟨g, 0, none⟩) m c ∧ B ≤ g ∧ Ints W g m h := by
  have o' := o
  obtain ⟨_, ⟨_, q⟩ | ⟨g, c, cur, rfl, hg, _⟩⟩ := o
  · omega
  · exact ⟨g, c, rfl, hg, fun k hk => ⟨by rw [o'.cellAt k (by omega), valsTo_get h hk], o'.frozenAt k⟩⟩
theorem owns_lt {W : World} {B : Nat} {e : TypeId} {sz : Nat} {v : Value} {n : Nat} {xs : List Value} (h : W.ownsRow B e sz v n xs) : ∀ k, v.ownBlock = some k → B ≤ k ∧ ∃ cur, W.heap[k]? = some (.cells cur e (0, 0)) := by
  intro k hk
  obtain ⟨_, ⟨rfl, _⟩ | ⟨g, cap, cur, rfl, hg, hh, _⟩⟩ := h
  · simp [Value.ownBlock] at hk
  · simp [Value.ownBlock] at hk; subst hk; exact ⟨hg, cur, hh⟩
theorem owns_block {W W' : World} {B : Nat} {e : TypeId} {sz : Nat} {v : Value} {n : Nat} {xs : List Value} (h : W.ownsRow B e sz v n xs) (hk : ∀ k, v.ownBlock = some k → W'.heap[k]? = W.heap[k]?) : W'.ownsRow B e sz v n xs := by
  obtain ⟨h1, h2⟩ := h
  refine ⟨h1, ?_⟩
  rcases h2 with h2 | ⟨g, cap, cur, rfl, hg, hh, h3⟩
  · exact .inl h2
  · exact .inr ⟨g, cap, cur, rfl, hg, by rw [hk g rfl]; exact hh, h3⟩
theorem owns_below {W W' : World} {B : Nat} {e : TypeId} {sz : Nat} {v : Value} {n : Nat} {xs : List Value} (h : W.ownsRow B e sz v n xs) (hb : Below W.heap.size W W') : W'.ownsRow B e sz v n xs :=
  owns_block h fun k hk => by obtain ⟨_, cur, hh⟩ := owns_lt h k hk; exact hb.block k (heap_lt hh)
/-- a list grows: an exact number in its own block stays -/
theorem Ex.keep {W W' : World} {row : Option Nat} {s : Int} {a : Option Addr} {len cap : Nat} {n : Int} (h : Ex W s a len cap n) (hg : W.grownBy W' row) (hr : ∀ g, row = some g → ∃ cur, W.heap[g]? = some (.cells cur 2 (0, 0))) : Ex W' s a len cap n := by
  obtain ⟨h1, l, h2, h3, h4⟩ := h
  refine ⟨h1, l, h2, ?_, h4⟩
  rcases h3 with h | ⟨g, q1, q2, ⟨cur, fr, q3⟩, q4⟩
  · exact .inl h
  · have hne : some g ≠ row := by
      intro e
      obtain ⟨C, hT⟩ := hr g e.symm
      rw [q3] at hT; simp at hT
    exact .inr ⟨g, q1, q2, ⟨cur, fr, by rw [hg.block g (heap_lt q3) hne]; exact q3⟩, fun i hi => hg.cell (q4 i hi) hne⟩
theorem Box.keep {W W' : World} {row : Option Nat} {p : Nat} {s : Int} {a : Option Addr} {len cap : Nat} {n : Int} (h : Box W p s a len cap n) (hg : W.grownBy W' row) (hr : ∀ g, row = some g → ∃ cur, W.heap[g]? = some (.cells cur 2 (0, 0))) : Box W' p s a len cap n := by
  obtain ⟨h1, ⟨C, fr, h2⟩, h3⟩ := h
  have hne : some p ≠ row := by
    intro e
    obtain ⟨C', hT⟩ := hr p e.symm
    rw [h2] at hT; simp at hT
  exact ⟨h1.grown hg hne, ⟨C, fr, by rw [hg.block p (heap_lt h2) hne]; exact h2⟩, h3.keep hg hr⟩

/-- while the reference gathers parts: the list, and what is left -/
structure L3 (w : World) (B q k : Nat) (vo : Value) (fp : Nat → Int) (m s : Int) (x : Option Addr) (l c : Nat) (W : World) : Prop where
  bel : Below w.heap.size w W
  own : W.ownsRow B 2 1 vo k (valsTo fp k)
  box : Box W q s x l c m
  b0 : w.heap.size ≤ B
  q0 : w.heap.size ≤ q
  bs : B ≤ W.heap.size
variable {w W W' : World} {B q k : Nat} {vo : Value} {fp : Nat → Int} {m s : Int} {x : Option Addr} {l c : Nat}
theorem L3.up (h : L3 w B q k vo fp m s x l c W) (hb : Below W.heap.size W W') : L3 w B q k vo fp m s x l c W' :=
  ⟨up2 h.bel hb, owns_below h.own hb, h.box.below hb, h.b0, h.q0, Nat.le_trans h.bs hb.size⟩
theorem L3.drew (h : L3 w B q k vo fp m s x l c W) : L3 w B q k vo fp m s x l c W.drew := h.up (Below.refl _ _).drew
theorem L3.put (h : L3 w B q k vo fp m s x l c W) {t m' : Int} {y : Option Addr} {l2 c2 : Nat} (hE : Ex W t y l2 c2 m') :
    L3 w B q k vo fp m' t y l2 c2 ((W.setCell ⟨q, 0, none⟩ (.int .i64 t)).setCell ⟨q, 1, none⟩ (.slice y l2 c2)) := by
  refine ⟨(h.bel.setCell h.q0 _).setCell h.q0 _, owns_block h.own fun g hg => ?_, h.box.put hE, h.b0, h.q0, by simpa using h.bs⟩
  obtain ⟨_, cur, hh⟩ := owns_lt h.own g hg
  obtain ⟨_, ⟨C, fr, h2⟩, _⟩ := h.box
  have hne : g ≠ q := by intro e; subst e; rw [h2] at hh; simp at hh
  rw [Below.heap_setCell _ _ _ _ hne, Below.heap_setCell _ _ _ _ hne]
theorem L3.more (h : L3 w B q k vo fp m s x l c W) {vo' : Value} {w1 : World} {o : Obj} (h1 : w1.ownsRow B 2 1 vo' (k + 1) (valsTo fp k ++ [.int .i64 (fp k)])) (h2 : (W.alloc o).grownBy w1 vo.ownBlock) : L3 w B q (k + 1) vo' fp m s x l c w1 := by
  have ha : Below W.heap.size W (W.alloc o) := (Below.refl _ _).alloc (Nat.le_refl _) _
  have hA := h.up ha
  refine ⟨hA.bel.grown h2 hA.bel.size (fun g hg => ?_), by rw [valsTo_step]; exact h1, hA.box.keep h2 (fun g hg => ?_), h.b0, h.q0, Nat.le_trans hA.bs h2.size⟩
  · have := (owns_lt h.own g hg).1; have := h.b0; omega
  · exact (owns_lt hA.own g hg).2
theorem L3.ex (h : L3 w B q k vo fp m s x l c W) : Ex W s x l c m := h.box.2.2

def someB (f : Nat → Int) : Nat → Bool
  | 0 => false
  | k + 1 => someB f k || decide (0 < f k)
theorem someB_iff (f : Nat → Int) (n : Nat) : someB f n = true ↔ ∃ t, t < n ∧ 0 < f t := by
  induction n with
  | zero => simp [someB]
  | succ n ih =>
    simp only [someB, Bool.or_eq_true, ih, decide_eq_true_eq]
    constructor
    · rintro (⟨t, h1, h2⟩ | h)
      · exact ⟨t, by omega, h2⟩
      · exact ⟨n, by omega, h⟩
    · rintro ⟨t, h1, h2⟩
      by_cases e : t = n
      · subst e; exact .inr h2
      · exact .inl ⟨t, by omega, h2⟩
/-- how many get one more ahead of a place, as the reference counts them -/
theorem key_iff {n : Nat} {K : Nat → Int} {a b : Nat} (ha : a < n) (hb : b < n) : key n K a < key n K b ↔ (K b < K a ∨ (K a = K b ∧ a < b)) := by
  rcases Nat.lt_trichotomy a b with h | h | h
  · have e := key_gt (n := n) (K := K) (x := a) (y := b) (by omega) (by omega) (by omega)
    simp only [Int.toNat_natCast] at e
    rw [e]; omega
  · subst h; omega
  · have e := key_lt (n := n) (K := K) (x := b) (y := a) (by omega) (by omega) (by omega)
    simp only [Int.toNat_natCast] at e
    rw [e]; omega

def RListed (w : World) (err : Int) (n : Nat) (v : Nat → Int) (e : Ending) (w' : World) : Prop :=
  Below w.heap.size w w' ∧ ((err ≠ 0 ∧ e = .returned (.tuple #[.slice none 0 0, .int .i64 err])) ∨
    (err = 0 ∧ ∃ p c, e = .returned (.tuple #[.slice (some ⟨p, 0, none⟩) n c, .int .i64 0]) ∧ w.heap.size ≤ p ∧ Ints w' p n v))

theorem total_arg (f : Nat → Int) (a : Option Addr) (n cap : Nat) (w : World) (hf : Amounts f) (hn : n ≤ 1000) (hA : Arg w a n f) : Calls Tryz.prog 80 #[.slice a n cap] w (ExPost w (sumN f n)) := by
  by_cases h0 : n = 0
  · subst h0; exact total_zero a cap w
  · obtain ⟨b, off, rfl, hr⟩ := hA (by omega)
    rw [← sumTo_eq]
    exact total_some f hf b off n cap w hn hr
theorem sumN_small {f : Nat → Int} (hf : Amounts f) {k : Nat} (hk : k ≤ 1000) : Small (sumN f k) := by rw [← sumTo_eq]; exact sum_small hf hk
theorem miss_am {size s : Int} {f : Nat → Int} {n : Nat} (W : Weights f n s) (h : 0 ≤ size) (z1 : size ≤ 9223372036854775807) {k : Nat} (hk : k ≤ n) : Am (size - sumN (partV size f s) k) := by
  have := W.left h hk; unfold Am; omega

theorem rank_bd (n : Nat) (K : Nat → Int) (i d : Nat) : 0 ≤ sumN (fun t => if key n K t < key n K i then 1 else 0) d ∧ sumN (fun t => if key n K t < key n K i then 1 else 0) d ≤ d := by
  induction d with
  | zero => simp [sumN]
  | succ d ih => simp only [sumN]; split <;> omega

set_option maxRecDepth 1000000 in
set_option maxHeartbeats 40000000 in
theorem rout_main (total : Int) (f : Nat → Int) (a : Option Addr) (n cap : Nat) (w : World) (hf : Amounts f) (t0 : 0 ≤ total) (t2 : total ≤ 9223372036854775807) (hE : outE total f n = 0) (hA : Arg w a n f) :
    Calls Tryz.prog 82 #[.int .i64 total, .slice a n cap] w (RListed w 0 n (shareV total f (sumN f n) n)) := by
  obtain ⟨i0, hi, hz0, hz1, hz2⟩ := info_parts Tryz.infoI64
  obtain ⟨hn, hW, hs1, hm⟩ := outE_ok hE
  obtain ⟨b, off, ha, hr⟩ := hA hW.n0
  subst ha
  have HW := Lib.hid hW
  have HR := Lib.hid hr
  have HF := Lib.hid hf
  have h0 := hW.n0
  have s0 := hW.s0
  have hz : ¬ (64 : Int) < (n : Int) := by omega
  have HSm : Hid (someB f n = true) := (someB_iff f n).2 (by
    apply Classical.byContradiction; intro q
    have : sumN f n ≤ 0 := by
      have e := sumN_le (f := f) (g := fun _ => 0) (n := n) (fun k hk => by apply Int.le_of_not_gt; intro q2; exact q ⟨k, hk, q2⟩)
      rwa [sumN_zero (fun _ _ => rfl)] at e
    omega)
  obtain ⟨s, hse⟩ : ∃ s, s = sumN f n := ⟨_, rfl⟩
  rw [← hse] at HW hs1 s0 ⊢
  have HSE := Lib.hid hse
  have hm1 : (total == -9223372036854775808) = false := by simp; omega
  have ht1 : ¬ total < 0 := by omega
  clear hA hr hf hW hE hm hse
  go_enter Tryz.func82, Tryz.ntmps82
  go_wp2_with fail
  go_loop [6, 7] (fun vs vi => ∃ k : Nat, k ≤ n ∧ vi = .int .i64 k ∧ vs = .bool (someB f k)) (fun _ vi => n - (intOf vi).toNat)
  case atStart => exact ⟨0, Nat.zero_le _, rfl, rfl⟩
  case round =>
    obtain ⟨k, hk, rfl, rfl⟩ := hrel
    by_cases hlt : k < n
    · have c1 := HR.out k hlt
      have c2 : ¬ f k < 0 := by have := HW.out.pos k hlt; omega
      by_cases hb : someB f k = true
      · have hb2 : someB f (k + 1) = true := by simp [someB, hb]
        go_wp2_with fail
        go_round
        case rel => exact ⟨k + 1, by omega, by go_num, by rw [hb2]⟩
        case measure => simp [intOf]; omega
      · have hb1 : someB f k = false := by simpa using hb
        have hb2 : someB f (k + 1) = decide (0 < f k) := by simp [someB, hb1]
        clear hb
        go_wp2_with fail
        go_round
        case rel => exact ⟨k + 1, by omega, by go_num, by rw [hb2]⟩
        case measure => simp [intOf]; omega
    · have hke : k = n := by omega
      subst hke
      have hsb := HSm.out
      go_wp2_with fail
      refine (total_arg f (some ⟨b, off, none⟩) k cap w HF.out (by omega) (arg_of HR.out)).mono ?_
      rintro e w1 ⟨s1, x1, n1, p1, rfl, hE1, hb1⟩
      have HB1 := Lib.hid hb1
      have E1 := Lib.hid hE1
      clear hb1 hE1
      go_wp2_with fail
      refine (fit_any s1 (sumN f k) x1 n1 p1 w1 E1.out (sumN_small HF.out (by omega))).mono ?_
      rintro e w2 ⟨rfl, hb2⟩
      have HB2 := Lib.hid (up2 HB1.out hb2)
      rw [← HSE.out, (tell_in (v := s) (by omega) hs1).1, (tell_in (v := s) (by omega) hs1).2]
      clear hb2 E1 HB1 hsb HSm
      go_wp2_with fail
      refine (of_any total _ (by omega) t2).mono ?_
      rintro e w3 ⟨s3, x3, n3, p3, rfl, hE3, hb3⟩
      have HL : Hid (L3 w w2.heap.size w3.heap.size 0 (.slice (some ⟨w2.heap.size, 0, none⟩) 0 0) (partV total f s) (total - sumN (partV total f s) 0) s3 x3 n3 p3 (w3.alloc (.cells #[.int .i64 s3, .slice x3 n3 p3] 135))) := by
        have e1 := HB2.out.size; have e2 := hb3.size
        have bb : Below w.heap.size w w3 := up2 (up1 HB2.out _) hb3
        have own0 : (w2.alloc (.cells #[] 2)).ownsRow w2.heap.size 2 1 (.slice (some ⟨w2.heap.size, 0, none⟩) 0 0) 0 (valsTo (partV total f s) 0) :=
          ⟨rfl, .inr ⟨w2.heap.size, 0, #[], rfl, Nat.le_refl _, heap_alloc_new w2 _, Nat.le_refl _, Nat.zero_le _, rfl, rfl⟩⟩
        have ha : Below w3.heap.size w3 (w3.alloc (.cells #[.int .i64 s3, .slice x3 n3 p3] 135)) := (Below.refl _ _).alloc (Nat.le_refl _) _
        simp only [World.size_alloc] at e2
        exact ⟨up1 bb _, owns_below (owns_below own0 hb3) ha, by rw [show total - sumN (partV total f s) 0 = total by simp [sumN]]; exact Box.new w3 hE3, e1, by omega, by simp; omega⟩
      go_wp2_with fail
      obtain ⟨W4, hW4⟩ : ∃ W4, W4 = w3.alloc (.cells #[.int .i64 s3, .slice x3 n3 p3] 135) := ⟨_, rfl⟩
      obtain ⟨B, hBe⟩ : ∃ B, B = w2.heap.size := ⟨_, rfl⟩
      obtain ⟨q, hqe⟩ : ∃ q, q = w3.heap.size := ⟨_, rfl⟩
      rw [← hW4, ← hBe, ← hqe] at HL
      rw [← hW4, ← hBe, ← hqe]
      clear hW4 hBe hqe hE3 hb3 HB2
      go_loopw [13, 15] (fun vo vi wr => ∃ j : Nat, j ≤ k ∧ vi = .int .i64 j ∧ ∃ s' x' l' c', L3 w B q j vo (partV total f s) (total - sumN (partV total f s) j) s' x' l' c' wr) (fun _ vi _ => k - (intOf vi).toNat)
      case atStart => exact ⟨0, Nat.zero_le _, rfl, _, _, _, _, HL.out⟩
      case round =>
        clear HL
        obtain ⟨j, hj, rfl, s', x', l', c', hL⟩ := hrel
        have HL := Lib.hid hL
        clear hL
        by_cases hjk : j < k
        · have c1 : wr.cell? ⟨b, off + j, none⟩ = some (.int .i64 (f j)) := kcell HL.out.bel (HR.out j hjk)
          have HFj : Hid (0 ≤ f j ∧ Am (f j)) := ⟨HW.out.pos j hjk, HF.out j⟩
          have HP : Hid (tellV (total * f j / s) = partV total f s j ∧ Am (partV total f s j)) := by
            have a1 := HW.out.part0 t0 hjk; have a2 := HW.out.room t0 hjk; have a3 := HW.out.miss0 (size := total)
            exact ⟨(tell_in (v := partV total f s j) (by omega) (by omega)).1, by unfold Am; omega⟩
          have hjz : (j : Int) < (k : Int) := by omega
          go_wp2_with fail
          refine (rpart_any total (f j) s _ ⟨by omega, t2⟩ HFj.out.1 HFj.out.2 s0 ⟨by omega, hs1⟩).mono ?_
          rintro e w5 ⟨rfl, hb5⟩
          rw [HP.out.1]
          have HL5 := Lib.hid (HL.out.up hb5)
          clear hb5 HL c1
          have HM : Hid (Small (total - sumN (partV total f s) j)) := small64 (miss_am HW.out t0 t2 (k := j) hj).1 (miss_am HW.out t0 t2 (k := j) hj).2
          have HMp : Hid (Small (partV total f s j)) := small64 HP.out.2.1 HP.out.2.2
          have HM1 : Hid (total - sumN (partV total f s) j - partV total f s j = total - sumN (partV total f s) (j + 1)) := by show _ = _; simp only [sumN]; omega
          obtain ⟨pj, hpj⟩ : ∃ pj, pj = partV total f s j := ⟨_, rfl⟩
          rw [← hpj] at HP HM1 HMp
          rw [← hpj]
          have HPE := Lib.hid hpj
          have hown := HL5.out.own
          have hBs := HL5.out.bs
          have HST : Hid (∀ (vo' : Value) (w1 : World), w1.ownsRow B 2 1 vo' (j + 1) (valsTo (partV total f s) j ++ [.int .i64 pj]) → (w5.alloc (.cells #[.int .i64 pj] 2)).grownBy w1 u13.ownBlock → L3 w B q (j + 1) vo' (partV total f s) (total - sumN (partV total f s) j) s' x' l' c' w1) := fun vo' w1 g1 g2 => by rw [HPE.out] at g1; exact HL5.out.more g1 g2
          clear hpj
          go_wp2_with (first | (at_builtin; refine wpList_append_own _ rfl _ _ 64 rfl B 2 i0 (.int .i64 0) 1 8 Tryz.underlying64 hi hz0 hz1 hz2 rfl (by decide) _ _ _ rfl (World.ownsRow.alloc hown _) ⟨w5.heap.size, 0, none⟩ 1 1 [.int .i64 pj] rfl rfl (one_news _ _ _) (one_cell _) ?c3 ?c4 ?c5 ?_))
          case c3 => unfold maxLen; omega
          case c4 => omega
          case c5 => first | omega | (simp; omega)
          intro vo' w6 hown' hgrow _
          have HL6 := Lib.hid (HST.out vo' w6 hown' hgrow)
          clear hown' hgrow hown HST HL5 hBs
          obtain ⟨c0, c1, e0, e1⟩ := HL6.out.box.1
          have p1 := HP.out.2.1
          have p2 := HP.out.2.2
          go_wp2_with fail
          go_region_with (first | (go_at_call 77; ((with_reducible refine (of_any pj _ p1 p2).mono ?_); rintro e w7 ⟨s7, x7, n7, p7, rfl, hE7, hb7⟩; have k7 := Lib.hid (HL6.out.drew.up hb7); have e7 := Lib.hid hE7; clear hE7 hb7; obtain ⟨y0, y1, y2, y3⟩ := k7.out.box.1)) | (go_at_call 81; ((with_reducible refine (less_ex s' s7 (total - sumN (partV total f s) j) pj x' x7 l' n7 c' p7 _ k7.out.ex e7.out HM.out HMp.out).mono ?_); rintro e w8 ⟨s8, x8, n8, p8, rfl, hE8, hb8⟩; have k8 := Lib.hid (k7.out.up hb8); have e8 := Lib.hid hE8; clear hE8 hb8; obtain ⟨z0, z1, z2, z3⟩ := k8.out.box.1)))
          all_goals
            go_wp2_with fail
            go_roundw
            case rel =>
              have ee := e8.out
              rw [HM1.out] at ee
              exact ⟨j + 1, by omega, by go_num, s8, x8, n8, p8, k8.out.put ee⟩
            case measure => simp [intOf]; omega
        · have hje : j = k := by omega
          subst hje
          clear hjk
          obtain ⟨c0, c1, _, _⟩ := HL.out.box.1
          obtain ⟨M, hM⟩ : ∃ M, M = missV total f s j := ⟨_, rfl⟩
          have HMe : Hid (total - sumN (partV total f s) j = M) := by show _ = _; rw [hM]; rfl
          have HMa : Hid (Am M) := by have := miss_am HW.out t0 t2 (k := j) (Nat.le_refl _); rw [HMe.out] at this; exact this
          have HEx := Lib.hid HL.out.ex
          rw [HMe.out] at HEx
          have HM := Lib.hid hM
          clear hM
          go_wp2_with fail
          refine (fit_any s' M x' l' c' _ HEx.out (small64 HMa.out.1 HMa.out.2)).mono ?_
          rintro e w5 ⟨rfl, hb5⟩
          rw [(tell_in HMa.out.1 HMa.out.2).1, (tell_in HMa.out.1 HMa.out.2).2]
          have HL5 := Lib.hid (HL.out.up hb5)
          clear hb5 HL c0 c1 HEx HMe
          obtain ⟨g, cg, hv, hg, hints⟩ := vals_ints h0 HL5.out.own
          subst hv
          have HN : Hid (NearAt w (some ⟨b, off, none⟩) g j f (fun t => if t < 0 then shareV total f s j t else partV total f s t) w5) := ⟨HL5.out.bel, ints_same hints (fun t _ => by simp), fun _ => ⟨b, off, rfl, fun t ht => kcell HL5.out.bel (HR.out t ht)⟩⟩
          have HG : Hid (w.heap.size ≤ g) := by have := HL5.out.b0; show _ ≤ g; omega
          clear hints hg HL5
          go_wp2_with fail
          go_loopw [20] (fun vi wr => ∃ i : Nat, i ≤ j ∧ vi = .int .i64 i ∧ NearAt w (some ⟨b, off, none⟩) g j f (fun t => if t < i then shareV total f s j t else partV total f s t) wr) (fun vi _ => j - (intOf vi).toNat)
          case atStart => exact ⟨0, Nat.zero_le _, rfl, HN.out⟩
          case round =>
            clear HN
            obtain ⟨i, hi', rfl, hN⟩ := hrel
            have HN := Lib.hid hN
            clear hN
            by_cases hij : i < j
            · have c1 : wr.cell? ⟨b, off + i, none⟩ = some (.int .i64 (f i)) := kcell HN.out.bel (HR.out i hij)
              have HFi : Hid (0 ≤ f i ∧ Am (f i)) := ⟨HW.out.pos i hij, HF.out i⟩
              have hijz : (i : Int) < (j : Int) := by omega
              go_wp2_with fail
              refine (rrest_any total (f i) s _ ⟨by omega, t2⟩ HFi.out.1 HFi.out.2 s0 ⟨by omega, hs1⟩).mono ?_
              rintro e w6 ⟨rfl, hb6⟩
              have HN6 := Lib.hid (HN.out.up hb6)
              clear hb6 HN c1
              obtain ⟨ri, hri⟩ : ∃ ri, ri = restV total f s i := ⟨_, rfl⟩
              have hri' : total * f i % s = ri := hri.symm
              rw [hri']
              have HRi := Lib.hid hri
              clear hri hri'
              go_wp2_with fail
              go_loopw [23, 24] (fun va vk wr => ∃ d : Nat, d ≤ j ∧ vk = .int .i64 d ∧ va = .int .i64 (sumN (fun t => if key j (restV total f s) t < key j (restV total f s) i then 1 else 0) d) ∧ NearAt w (some ⟨b, off, none⟩) g j f (fun t => if t < i then shareV total f s j t else partV total f s t) wr) (fun _ vk _ => j - (intOf vk).toNat)
              case atStart => exact ⟨0, Nat.zero_le _, rfl, rfl, HN6.out⟩
              case round =>
                clear HN6
                obtain ⟨d, hd, rfl, rfl, hN⟩ := hrel
                have HN := Lib.hid hN
                clear hN
                have HRk := Lib.hid (rank_bd j (restV total f s) i d)
                by_cases hdj : d < j
                · have c1 : wr.cell? ⟨b, off + d, none⟩ = some (.int .i64 (f d)) := kcell HN.out.bel (HR.out d hdj)
                  have HFd : Hid (0 ≤ f d ∧ Am (f d)) := ⟨HW.out.pos d hdj, HF.out d⟩
                  have hdjz : (d : Int) < (j : Int) := by omega
                  go_wp2_with fail
                  refine (rrest_any total (f d) s _ ⟨by omega, t2⟩ HFd.out.1 HFd.out.2 s0 ⟨by omega, hs1⟩).mono ?_
                  rintro e w7 ⟨rfl, hb7⟩
                  have HN7 := Lib.hid (HN.out.up hb7)
                  clear hb7 HN c1
                  have HK := Lib.hid (key_iff (n := j) (K := restV total f s) hdj hij)
                  rw [← HRi.out] at HK
                  obtain ⟨rd, hrd⟩ : ∃ rd, rd = restV total f s d := ⟨_, rfl⟩
                  have hrd' : total * f d % s = rd := hrd.symm
                  rw [hrd']
                  rw [← hrd] at HK
                  clear hrd hrd'
                  have HS : Hid (sumN (fun t => if key j (restV total f s) t < key j (restV total f s) i then 1 else 0) (d + 1) = sumN (fun t => if key j (restV total f s) t < key j (restV total f s) i then 1 else 0) d + if ri < rd ∨ (rd = ri ∧ d < i) then 1 else 0) := by
                    show _ = _
                    simp only [sumN]
                    by_cases q : ri < rd ∨ (rd = ri ∧ d < i)
                    · rw [if_pos q, if_pos (HK.out.2 q)]
                    · rw [if_neg q, if_neg (fun r => q (HK.out.1 r))]
                  obtain ⟨sa, hsa⟩ : ∃ sa, sa = sumN (fun t => if key j (restV total f s) t < key j (restV total f s) i then 1 else 0) d := ⟨_, rfl⟩
                  rw [← hsa] at HS HRk ⊢
                  clear hsa HK
                  have i1 : IntKind.i64.wrap (sa + 1) = sa + 1 := by have := HRk.out; rw [IntKind.wrap_i64]; omega
                  by_cases q1 : ri < rd
                  · rw [if_pos (.inl q1)] at HS
                    go_wp2_with fail
                    go_roundw
                    case rel => exact ⟨d + 1, by omega, by go_num, by rw [HS.out], HN7.out⟩
                    case measure => simp [intOf]; omega
                  · have q1z : decide (rd > ri) = false := by simp; omega
                    by_cases q2 : rd = ri
                    · have q2z : (rd == ri) = true := by simp [q2]
                      by_cases q3 : d < i
                      · rw [if_pos (.inr ⟨q2, q3⟩)] at HS
                        have q3z : (d : Int) < (i : Int) := by omega
                        clear q2
                        go_wp2_with fail
                        go_roundw
                        case rel => exact ⟨d + 1, by omega, by go_num, by rw [HS.out], HN7.out⟩
                        case measure => simp [intOf]; omega
                      · rw [if_neg (by omega)] at HS
                        have q3z : ¬ (d : Int) < (i : Int) := by omega
                        clear q2
                        go_wp2_with fail
                        go_roundw
                        case rel => exact ⟨d + 1, by omega, by go_num, by rw [HS.out, Int.add_zero], HN7.out⟩
                        case measure => simp [intOf]; omega
                    · rw [if_neg (by omega)] at HS
                      have q2z : (rd == ri) = false := by simp [q2]
                      go_wp2_with fail
                      go_roundw
                      case rel => exact ⟨d + 1, by omega, by go_num, by rw [HS.out, Int.add_zero], HN7.out⟩
                      case measure => simp [intOf]; omega
                · have hde : d = j := by omega
                  subst hde
                  have HRank : Hid (sumN (fun t => if key d (restV total f s) t < key d (restV total f s) i then 1 else 0) d = rankV d (restV total f s) i) := rfl
                  rw [HRank.out]
                  rw [HRank.out] at HRk
                  obtain ⟨rk, hrk⟩ : ∃ rk, rk = rankV d (restV total f s) i := ⟨_, rfl⟩
                  rw [← hrk]
                  have HSh : Hid (shareV total f s d i = partV total f s i + if rk < M then 1 else 0) := by show _ = _; unfold shareV; rw [hrk, HM.out]
                  have HRoom := Lib.hid (HW.out.room t0 hij)
                  have HP0 := Lib.hid (HW.out.part0 t0 hij)
                  have hk0 : 0 ≤ rk := by rw [hrk]; exact rankV_pos _ _ _
                  clear HRank hrk HRk hdj
                  by_cases hrm : rk < M
                  · rw [if_pos hrm] at HSh
                    have c1 := (HN.out.ints i hij).1
                    have c2 := (HN.out.ints i hij).2
                    simp only [if_neg (show ¬ i < i by omega)] at c1
                    obtain ⟨pv, hpv⟩ : ∃ pv, pv = partV total f s i := ⟨_, rfl⟩
                    rw [← hpv] at c1 HSh HRoom HP0
                    have i1 : IntKind.i64.wrap (pv + 1) = pv + 1 := by have r1 := HRoom.out; have r2 := HP0.out; rw [← HM.out] at r1; rw [IntKind.wrap_i64]; omega
                    clear hpv
                    go_wp2_with fail
                    go_roundw
                    case rel =>
                      refine ⟨i + 1, by omega, by go_num, HN.out.bel.setCell HG.out _, ints_same (ints_set HN.out.ints hij (pv + 1)) (fun t ht => ?_), fun _ => ⟨b, off, rfl, fun t ht => ?_⟩⟩
                      · by_cases e : t = i
                        · rw [if_pos (by omega), if_pos e, e, HSh.out]
                        · rw [if_neg e]
                          by_cases e2 : t < i
                          · rw [if_pos (by omega), if_pos e2]
                          · rw [if_neg (by omega), if_neg e2]
                      · exact kcell (HN.out.bel.setCell HG.out _) (HR.out t ht)
                    case measure => simp [intOf]; omega
                  · rw [if_neg hrm] at HSh
                    go_wp2_with fail
                    go_roundw
                    case rel =>
                      refine ⟨i + 1, by omega, by go_num, HN.out.bel, ints_same HN.out.ints (fun t ht => ?_), HN.out.arg⟩
                      by_cases e : t = i
                      · rw [if_pos (by omega), if_neg (by omega), e, HSh.out, Int.add_zero]
                      · by_cases e2 : t < i
                        · rw [if_pos (by omega), if_pos e2]
                        · rw [if_neg (by omega), if_neg e2]
                    case measure => simp [intOf]; omega
            · have hie : i = j := by omega
              subst hie
              go_wp2_with fail
              go_ret2
              exact ⟨HN.out.bel, .inr ⟨rfl, g, cg, rfl, HG.out, ints_same HN.out.ints (fun t ht => by rw [if_pos ht])⟩⟩
end Go.Proofs.YtklaonoekmhakaaGreat
