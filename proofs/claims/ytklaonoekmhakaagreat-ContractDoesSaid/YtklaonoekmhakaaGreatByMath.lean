/- Contracts: Fit. -/
import Derived.Test.YtklaonoekmhakaaGreatW
import Derived.Test.YtklaonoekmhakaaGreatQ
namespace Go.Proofs.YtklaonoekmhakaaGreat
open Go.RowKit

theorem lval_drop (l : List Int) (j : Nat) : lval (l.drop j) = dg l j + 1000 * lval (l.drop (j + 1)) := by
  induction l generalizing j with
  | nil => simp [lval, dg]
  | cons d l ih =>
    cases j with
    | zero => simp [lval, dg]
    | succ j => simp only [List.drop_succ_cons]; rw [ih j]; rfl
theorem digOk_drop {l : List Int} (h : DigOk l) (k : Nat) : DigOk (l.drop k) := fun d hd => h d (List.mem_of_mem_drop hd)
theorem lval_drop_le {l : List Int} (h : DigOk l) (k : Nat) : 0 ≤ lval (l.drop k) ∧ lval (l.drop k) ≤ lval l := by
  refine ⟨(lval_bd (digOk_drop h k)).1, ?_⟩
  induction k with
  | zero => simp
  | succ k ih =>
    have h1 := lval_drop l k
    have h2 := (dg_ok h k).1
    have h3 := (lval_bd (digOk_drop h (k + 1))).1
    omega

/-- the number's own block -/
def FHead (w W : World) (sa va : Value) : Prop := Below w.heap.size w W ∧ w.heap.size + 1 ≤ W.heap.size ∧ W.cell? ⟨w.heap.size, 0, none⟩ = some sa ∧ W.cell? ⟨w.heap.size, 1, none⟩ = some va
theorem FHead.up {w W W' : World} {sa va : Value} {B : Nat} (h : FHead w W sa va) (hb : Below B W W') (hB : w.heap.size + 1 ≤ B) : FHead w W' sa va := by
  obtain ⟨h1, h2, h3, h4⟩ := h
  exact ⟨h1.trans (hb.mono (by omega)), Nat.le_trans h2 hb.size, (hb.cell (p := ⟨w.heap.size, 0, none⟩) (by show w.heap.size < B; omega)).trans h3, (hb.cell (p := ⟨w.heap.size, 1, none⟩) (by show w.heap.size < B; omega)).trans h4⟩
theorem fhead_start (w : World) (sa va : Value) : FHead w (w.alloc (.cells #[sa, va] 135)) sa va := by
  have h1 := Row2.new w sa va 135
  exact ⟨(Below.refl _ _).alloc (Nat.le_refl _) _, by simp, h1.1, h1.2.1⟩
theorem FHead.drew {w W : World} {sa va : Value} (h : FHead w W sa va) : FHead w W.drew sa va := h.up (Below.refl (w.heap.size + 1) W).drew (Nat.le_refl _)
theorem FHead.drewN {w W : World} {sa va : Value} (h : FHead w W sa va) (n : Nat) : FHead w (W.drewN n) sa va := h.up (below_drewN (Below.refl (w.heap.size + 1) W) n) (Nat.le_refl _)
theorem FHead.b {w W : World} {sa va : Value} (h : FHead w W sa va) : Below w.heap.size w W := h.1
theorem FHead.sz {w W : World} {sa va : Value} (h : FHead w W sa va) : w.heap.size + 1 ≤ W.heap.size := h.2.1
theorem FHead.up' {w W W' : World} {sa va : Value} (h : FHead w W sa va) (hb : Below W.heap.size W W') : FHead w W' sa va := h.up hb h.2.1

theorem small64 {n : Int} (h1 : -9223372036854775808 ≤ n) (h2 : n ≤ 9223372036854775807) : Small n := by
  unfold Small
  have h3 : (1000 : Int) ^ 7 * 1 ≤ 1000 ^ (7 + 193) := by
    rw [Int.pow_add]; exact Int.mul_le_mul_of_nonneg_left (by have := pow_pos' 193; omega) (by decide)
  have h4 : (1000 : Int) ^ 7 = 1000000000000000000000 := by decide
  have h5 : (1000 : Int) ^ (7 + 193) = 1000 ^ 200 := rfl
  rw [h4, h5] at h3
  generalize (1000 : Int) ^ 200 = P at *
  omega

theorem sign_gt {x : Int} (h : 0 < x) : x.sign = 1 := Int.sign_eq_one_of_pos h
theorem sign_le {x : Int} (h : x ≤ 0) : x.sign ≤ 0 := by
  rcases Int.lt_trichotomy x 0 with g | g | g
  · rw [Int.sign_eq_neg_one_of_neg g]; omega
  · rw [g]; decide
  · omega
theorem sign_ge {x : Int} (h : 0 ≤ x) : 0 ≤ x.sign := by
  rcases Int.lt_trichotomy x 0 with g | g | g
  · omega
  · rw [g]; decide
  · rw [Int.sign_eq_one_of_pos g]; omega

set_option maxRecDepth 100000 in
set_option maxHeartbeats 800000 in
theorem fit_high (s n : Int) (a : Option Addr) (len cap : Nat) (w : World) (h : Ex w s a len cap n) (hn : Small n) (hv : 9223372036854775807 < n) :
    Calls Tryz.prog 75 #[.agg #[.int .i64 s, .slice a len cap]] w fun e w' => e = .returned (.tuple #[.int .i64 0, .int .i64 3]) ∧ Below w.heap.size w w' := by
  have HE := Lib.hid h; have HN := Lib.hid hn
  have HF := Lib.hid (fhead_start w (.int .i64 s) (.slice a len cap))
  have HG := Lib.hid (sign_gt (x := n - 9223372036854775807) (by omega))
  clear h hn hv
  go_enter Tryz.func75, Tryz.ntmps75
  go_wp2_with fail
  obtain ⟨W0, hW0⟩ : ∃ W0, W0 = w.alloc (.cells #[.int .i64 s, .slice a len cap] 135) := ⟨_, rfl⟩
  rw [← hW0] at HF
  rw [← hW0]
  clear hW0
  obtain ⟨_, _, c0, c1⟩ := HF.out
  go_region_with (first | (go_at_call 77; ((with_reducible refine (of_any 9223372036854775807 _ (by decide) (by decide)).mono ?_); rintro e w1 ⟨s1, a1, len1, cap1, rfl, hE1, hb1⟩; have kE1 := Lib.hid hE1; have kF1 := Lib.hid (HF.out.drew.up' hb1); clear hE1 hb1; obtain ⟨_, _, x0, x1⟩ := kF1.out)) | (go_at_call 110; ((with_reducible refine (cmp_ex s s1 n 9223372036854775807 a a1 len len1 cap cap1 _ (HE.out.below kF1.out.b) kE1.out HN.out (small64 (by decide) (by decide))).mono ?_); rintro e w2 ⟨he2, hb2⟩; rw [HG.out] at he2; subst he2; have kF2 := Lib.hid (kF1.out.up' hb2); clear hb2; obtain ⟨_, _, y0, y1⟩ := kF2.out)))
  all_goals
    simp only [Act.put, List.getElem_toArray, List.getElem_cons_succ, List.getElem_cons_zero, List.setIfInBounds_toArray, List.set_cons_succ, List.set_cons_zero]
    clear x0 x1 y0 y1 c0 c1
    go_wp2_with fail
    go_ret2
    exact ⟨rfl, kF2.out.b⟩

def FQ (N : Nat) (W : World) (sa va : Value) : Prop := W.cell? ⟨N, 0, none⟩ = some sa ∧ W.cell? ⟨N, 1, none⟩ = some va
theorem FHead.q {w W : World} {sa va : Value} (h : FHead w W sa va) : FQ w.heap.size W sa va := ⟨h.2.2.1, h.2.2.2⟩

set_option maxRecDepth 100000 in
set_option maxHeartbeats 800000 in
theorem fit_low (s n q r : Int) (a : Option Addr) (len cap : Nat) (w : World) (h : Ex w s a len cap n) (hn : Small n) (hq : (n - 9223372036854775807).sign = q) (hr : (n - -9223372036854775808).sign = r) (hq0 : q ≤ 0) (hr0 : r < 0) :
    Calls Tryz.prog 75 #[.agg #[.int .i64 s, .slice a len cap]] w fun e w' => e = .returned (.tuple #[.int .i64 0, .int .i64 3]) ∧ Below w.heap.size w w' := by
  have HE := Lib.hid h; have HN := Lib.hid hn; have HQ := Lib.hid hq; have HR := Lib.hid hr
  have HF := Lib.hid (fhead_start w (.int .i64 s) (.slice a len cap))
  have t1 : decide (0 < q) = false := by simp; omega
  have t2 : decide (r < 0) = true := by simp; omega
  clear h hn hq hr
  go_enter Tryz.func75, Tryz.ntmps75
  go_wp2_with fail
  obtain ⟨W0, hW0⟩ : ∃ W0, W0 = w.alloc (.cells #[.int .i64 s, .slice a len cap] 135) := ⟨_, rfl⟩
  rw [← hW0] at HF
  rw [← hW0]
  clear hW0
  obtain ⟨_, _, c0, c1⟩ := HF.out
  go_region_held3 (fun w' => w'.cell? ⟨w.heap.size, 0, none⟩ = some (.int .i64 s) ∧ w'.cell? ⟨w.heap.size, 1, none⟩ = some (.slice a len cap))
    ((change FQ w.heap.size _ _ _; with_reducible (first | exact HF.out.drew.q | exact kF1.out.q | exact kF2.out.q | exact kF3.out.q | exact kF4.out.q)))
    (first | (go_at_call_of 77 (Value.int .i64 9223372036854775807); ((with_reducible refine (of_any 9223372036854775807 _ (by decide) (by decide)).mono ?_); rintro e w1 ⟨s1, a1, len1, cap1, rfl, hE1, hb1⟩; have kE1 := Lib.hid hE1; have kF1 := Lib.hid (HF.out.drew.up' hb1); clear hE1 hb1)) | (go_at_call 77; (refine (of_any (-9223372036854775808) _ (by decide) (by decide)).mono ?_; rintro e w3 ⟨s3, a3, len3, cap3, rfl, hE3, hb3⟩; have kE3 := Lib.hid hE3; have kF3 := Lib.hid (kF2.out.up' hb3); clear hE3 hb3)) | (go_at_call 110; ((with_reducible refine (cmp_ex s s1 n 9223372036854775807 a a1 len len1 cap cap1 _ (HE.out.below kF1.out.b) kE1.out HN.out (small64 (by decide) (by decide))).mono ?_); rintro e w2 ⟨he2, hb2⟩; rw [HQ.out] at he2; subst he2; have kF2 := Lib.hid (kF1.out.up' hb2); clear hb2)) | (go_at_call 110; ((with_reducible refine (cmp_ex s s3 n (-9223372036854775808) a a3 len len3 cap cap3 _ (HE.out.below kF3.out.b) kE3.out HN.out (small64 (by decide) (by decide))).mono ?_); rintro e w4 ⟨he4, hb4⟩; rw [HR.out] at he4; subst he4; have kF4 := Lib.hid (kF3.out.up' hb4); clear hb4)))
  go_wp2_with fail
  go_ret2
  exact ⟨rfl, kF4.out.b⟩
end Go.Proofs.YtklaonoekmhakaaGreat

namespace Go.Proofs.YtklaonoekmhakaaGreat
open Go.RowKit

/-- what holds at the loop's head of Fit: the digits from k on are told -/
theorem fit_bd {l : List Int} {s : Int} (h : DigOk l) (hs : s = 1 ∨ s = -1) (hv : -9223372036854775808 ≤ s * lval l ∧ s * lval l ≤ 9223372036854775807) (j : Nat) :
    -9223372036854775 ≤ s * lval (l.drop (j + 1)) ∧ s * lval (l.drop (j + 1)) ≤ 9223372036854775 ∧ -9223372036854775808 ≤ 1000 * (s * lval (l.drop (j + 1))) ∧ 1000 * (s * lval (l.drop (j + 1))) ≤ 9223372036854775807 ∧
    -9223372036854775808 ≤ 1000 * (s * lval (l.drop (j + 1))) + s * dg l j ∧ 1000 * (s * lval (l.drop (j + 1))) + s * dg l j ≤ 9223372036854775807 ∧ 1000 * (s * lval (l.drop (j + 1))) + s * dg l j = s * lval (l.drop j) := by
  have h1 := lval_drop l j
  have h2 := dg_ok h j
  have h3 := lval_drop_le h (j + 1)
  have h4 := lval_drop_le h j
  rcases hs with rfl | rfl <;> omega

set_option maxRecDepth 100000 in
set_option maxHeartbeats 800000 in
theorem fit_in (s n q r : Int) (a : Option Addr) (len cap : Nat) (l : List Int) (w : World) (h : Ex w s a len cap n) (hn : Small n) (hq : (n - 9223372036854775807).sign = q) (hr : (n - -9223372036854775808).sign = r) (hq0 : q ≤ 0) (hr0 : 0 ≤ r)
    (hd : Dg w a cap l) (hl : l.length = len) (ho : DigOk l) (hs : s = 1 ∨ s = -1) (hv : n = s * lval l) (hv1 : -9223372036854775808 ≤ n) (hv2 : n ≤ 9223372036854775807) :
    Calls Tryz.prog 75 #[.agg #[.int .i64 s, .slice a len cap]] w fun e w' => e = .returned (.tuple #[.int .i64 n, .int .i64 0]) ∧ Below w.heap.size w w' := by
  have hlen := ex_len h hn
  have HE := Lib.hid h; have HN := Lib.hid hn; have HQ := Lib.hid hq; have HR := Lib.hid hr; have HD := Lib.hid hd; have HL := Lib.hid hl; have HO := Lib.hid ho; have HS := Lib.hid hs; have HV := Lib.hid hv
  have HF := Lib.hid (fhead_start w (.int .i64 s) (.slice a len cap))
  have t1 : decide (0 < q) = false := by simp; omega
  have t2 : decide (r < 0) = false := by simp; omega
  have HV1 := Lib.hid hv1; have HV2 := Lib.hid hv2
  clear h hn hq hr hd hl ho hs hv hv1 hv2
  go_enter Tryz.func75, Tryz.ntmps75
  go_wp2_with fail
  obtain ⟨W0, hW0⟩ : ∃ W0, W0 = w.alloc (.cells #[.int .i64 s, .slice a len cap] 135) := ⟨_, rfl⟩
  rw [← hW0] at HF
  rw [← hW0]
  clear hW0
  obtain ⟨_, _, c0, c1⟩ := HF.out
  go_region_held3 (fun w' => w'.cell? ⟨w.heap.size, 0, none⟩ = some (.int .i64 s) ∧ w'.cell? ⟨w.heap.size, 1, none⟩ = some (.slice a len cap))
    ((change FQ w.heap.size _ _ _; with_reducible (first | exact HF.out.drew.q | exact kF1.out.q | exact kF2.out.q | exact kF3.out.q | exact kF4.out.q)))
    (first | (go_at_call_of 77 (Value.int .i64 9223372036854775807); ((with_reducible refine (of_any 9223372036854775807 _ (by decide) (by decide)).mono ?_); rintro e w1 ⟨s1, a1, len1, cap1, rfl, hE1, hb1⟩; have kE1 := Lib.hid hE1; have kF1 := Lib.hid (HF.out.drew.up' hb1); clear hE1 hb1)) | (go_at_call 77; (refine (of_any (-9223372036854775808) _ (by decide) (by decide)).mono ?_; rintro e w3 ⟨s3, a3, len3, cap3, rfl, hE3, hb3⟩; have kE3 := Lib.hid hE3; have kF3 := Lib.hid (kF2.out.up' hb3); clear hE3 hb3)) | (go_at_call 110; ((with_reducible refine (cmp_ex s s1 n 9223372036854775807 a a1 len len1 cap cap1 _ (HE.out.below kF1.out.b) kE1.out HN.out (small64 (by decide) (by decide))).mono ?_); rintro e w2 ⟨he2, hb2⟩; rw [HQ.out] at he2; subst he2; have kF2 := Lib.hid (kF1.out.up' hb2); clear hb2)) | (go_at_call 110; ((with_reducible refine (cmp_ex s s3 n (-9223372036854775808) a a3 len len3 cap cap3 _ (HE.out.below kF3.out.b) kE3.out HN.out (small64 (by decide) (by decide))).mono ?_); rintro e w4 ⟨he4, hb4⟩; rw [HR.out] at he4; subst he4; have kF4 := Lib.hid (kF3.out.up' hb4); clear hb4)))
  clear c0 c1
  have HF4 := kF4
  clear kF1 kF2 kF3 kF4 kE1 kE3
  obtain ⟨_, _, c0, c1⟩ := HF4.out
  go_wp2_with fail
  clear c0 c1
  go_loopw [4, 5] (fun v i W => ∃ k : Int, -1 ≤ k ∧ k < len ∧ i = .int .i64 k ∧ v = .int .i64 (s * lval (l.drop (k + 1).toNat)) ∧ FHead w W (.int .i64 s) (.slice a len cap)) (fun _ i _ => (intOf i + 1).toNat)
  case atStart => exact ⟨(len : Int) - 1, by omega, by omega, rfl, by have := HL.out; rw [show ((len : Int) - 1 + 1).toNat = l.length by omega, List.drop_length]; simp [lval], HF4.out⟩
  case round =>
    obtain ⟨k, hk, hk2, rfl, rfl, hF⟩ := hrel
    have HFr := Lib.hid hF
    obtain ⟨_, _, c0, c1⟩ := hF
    by_cases hz : 0 ≤ k
    · obtain ⟨j, rfl⟩ := Int.eq_ofNat_of_zero_le hz
      have HB := Lib.hid (fit_bd HO.out HS.out (by rw [← HV.out]; exact ⟨HV1.out, HV2.out⟩) j)
      obtain ⟨b1, b2, b3, b4, b5, b6, b7⟩ := HB.out
      have HB7 := Lib.hid b7
      rw [show ((j : Int) + 1).toNat = j + 1 by omega]
      obtain ⟨g, rfl, hcell⟩ : ∃ g, a = some ⟨g, 0, none⟩ ∧ wr.cell? ⟨g, j, none⟩ = some (.int .i64 (dg l j)) := by
        rcases HD.out.below HFr.out.1 with ⟨q1, q2⟩ | ⟨g, q1, _, _, q4⟩
        · have := HL.out; rw [q2] at this; simp at this; omega
        · exact ⟨g, q1, q4 j (by have := HL.out; omega)⟩
      have hj0 : (0 : Int) ≤ (j : Int) := by omega
      have hdj := dg_ok HO.out j
      obtain ⟨d1, d2⟩ := hdj
      clear b7 hz HB
      generalize lval (l.drop (j + 1)) = V at *
      generalize dg l j = d at *
      generalize hX : s * V = X at *
      have HX := Lib.hid hX; clear hX
      rcases HS.out with rfl | rfl
      · have b5' : -9223372036854775808 ≤ 1000 * X + d := by omega
        have b6' : 1000 * X + d ≤ 9223372036854775807 := by omega
        clear b5 b6
        have HB8 : Hid (1000 * X + d = 1 * lval (l.drop ((j : Int) - 1 + 1).toNat)) := by
          show _ = _
          rw [show ((j : Int) - 1 + 1).toNat = j by omega, ← HB7.out]; omega
        go_wp2_with fail
        go_quiet (fail)
        go_wp2_with fail
        go_roundw
        case rel => exact ⟨(j : Int) - 1, by omega, by omega, rfl, by rw [← HB8.out], HFr.out.drewN _⟩
        case measure => simp [intOf]
      · have b5' : -9223372036854775808 ≤ 1000 * X + -d := by omega
        have b6' : 1000 * X + -d ≤ 9223372036854775807 := by omega
        clear b5 b6
        have HB8 : Hid (1000 * X + -d = -1 * lval (l.drop ((j : Int) - 1 + 1).toNat)) := by
          show _ = _
          rw [show ((j : Int) - 1 + 1).toNat = j by omega, ← HB7.out]; omega
        go_wp2_with fail
        go_quiet (fail)
        go_wp2_with fail
        go_roundw
        case rel => exact ⟨(j : Int) - 1, by omega, by omega, rfl, by rw [← HB8.out], HFr.out.drewN _⟩
        case measure => simp [intOf]
    · have hke : k = -1 := by omega
      subst hke
      have HVN : Hid (s * lval (l.drop ((-1 : Int) + 1).toNat) = n) := by show _ = _; rw [HV.out]; rfl
      rw [HVN.out]
      go_wp2_with fail
      go_ret2
      exact ⟨rfl, HFr.out.b⟩
end Go.Proofs.YtklaonoekmhakaaGreat

namespace Go.Proofs.YtklaonoekmhakaaGreat
open Go.RowKit

set_option maxRecDepth 100000 in
set_option maxHeartbeats 800000 in
theorem fit_zero (q r : Int) (a : Option Addr) (cap : Nat) (w : World) (h : Ex w 0 a 0 cap 0) (hn : Small 0) (hq : ((0 : Int) - 9223372036854775807).sign = q) (hr : ((0 : Int) - -9223372036854775808).sign = r) (hq0 : q ≤ 0) (hr0 : 0 ≤ r) :
    Calls Tryz.prog 75 #[.agg #[.int .i64 0, .slice a 0 cap]] w fun e w' => e = .returned (.tuple #[.int .i64 0, .int .i64 0]) ∧ Below w.heap.size w w' := by
  have HE := Lib.hid h; have HN := Lib.hid hn; have HQ := Lib.hid hq; have HR := Lib.hid hr
  have HF := Lib.hid (fhead_start w (.int .i64 0) (.slice a 0 cap))
  have t1 : decide (0 < q) = false := by simp; omega
  have t2 : decide (r < 0) = false := by simp; omega
  clear h hn hq hr
  go_enter Tryz.func75, Tryz.ntmps75
  go_wp2_with fail
  obtain ⟨W0, hW0⟩ : ∃ W0, W0 = w.alloc (.cells #[.int .i64 0, .slice a 0 cap] 135) := ⟨_, rfl⟩
  rw [← hW0] at HF
  rw [← hW0]
  clear hW0
  obtain ⟨_, _, c0, c1⟩ := HF.out
  go_region_held3 (fun w' => w'.cell? ⟨w.heap.size, 0, none⟩ = some (.int .i64 0) ∧ w'.cell? ⟨w.heap.size, 1, none⟩ = some (.slice a 0 cap))
    ((change FQ w.heap.size _ _ _; with_reducible (first | exact HF.out.drew.q | exact kF1.out.q | exact kF2.out.q | exact kF3.out.q | exact kF4.out.q)))
    (first | (go_at_call_of 77 (Value.int .i64 9223372036854775807); ((with_reducible refine (of_any 9223372036854775807 _ (by decide) (by decide)).mono ?_); rintro e w1 ⟨s1, a1, len1, cap1, rfl, hE1, hb1⟩; have kE1 := Lib.hid hE1; have kF1 := Lib.hid (HF.out.drew.up' hb1); clear hE1 hb1)) | (go_at_call 77; (refine (of_any (-9223372036854775808) _ (by decide) (by decide)).mono ?_; rintro e w3 ⟨s3, a3, len3, cap3, rfl, hE3, hb3⟩; have kE3 := Lib.hid hE3; have kF3 := Lib.hid (kF2.out.up' hb3); clear hE3 hb3)) | (go_at_call 110; ((with_reducible refine (cmp_ex 0 s1 0 9223372036854775807 a a1 0 len1 cap cap1 _ (HE.out.below kF1.out.b) kE1.out HN.out (small64 (by decide) (by decide))).mono ?_); rintro e w2 ⟨he2, hb2⟩; rw [HQ.out] at he2; subst he2; have kF2 := Lib.hid (kF1.out.up' hb2); clear hb2)) | (go_at_call 110; ((with_reducible refine (cmp_ex 0 s3 0 (-9223372036854775808) a a3 0 len3 cap cap3 _ (HE.out.below kF3.out.b) kE3.out HN.out (small64 (by decide) (by decide))).mono ?_); rintro e w4 ⟨he4, hb4⟩; rw [HR.out] at he4; subst he4; have kF4 := Lib.hid (kF3.out.up' hb4); clear hb4)))
  clear c0 c1
  have HF4 := kF4
  clear kF1 kF2 kF3 kF4 kE1 kE3
  obtain ⟨_, _, c0, c1⟩ := HF4.out
  go_wp2_with fail
  clear c0 c1
  go_loopw [4, 5] (fun v i W => i = .int .i64 (-1) ∧ v = .int .i64 0 ∧ W = w4) (fun _ _ _ => 0)
  case atStart => exact ⟨rfl, rfl, rfl⟩
  case round =>
    obtain ⟨rfl, rfl, rfl⟩ := hrel
    go_wp2_with fail
    go_ret2
    exact ⟨rfl, HF4.out.b⟩

theorem fit_any (s n : Int) (a : Option Addr) (len cap : Nat) (w : World) (h : Ex w s a len cap n) (hn : Small n) :
    Calls Tryz.prog 75 #[.agg #[.int .i64 s, .slice a len cap]] w fun e w' => e = .returned (.tuple #[.int .i64 (tellV n), .int .i64 (tellE n)]) ∧ Below w.heap.size w w' := by
  by_cases h1 : 9223372036854775807 < n
  · have e1 : tellV n = 0 := by unfold tellV; rw [if_neg (by omega)]
    have e2 : tellE n = 3 := by unfold tellE; rw [if_neg (by omega)]
    rw [e1, e2]; exact fit_high s n a len cap w h hn h1
  · by_cases h2 : n < -9223372036854775808
    · have e1 : tellV n = 0 := by unfold tellV; rw [if_neg (by omega)]
      have e2 : tellE n = 3 := by unfold tellE; rw [if_neg (by omega)]
      rw [e1, e2]
      exact fit_low s n _ _ a len cap w h hn rfl rfl (sign_le (by omega)) (by rw [Int.sign_eq_neg_one_of_neg (by omega)]; omega)
    · have e1 : tellV n = n := by unfold tellV; rw [if_pos (by omega)]
      have e2 : tellE n = 0 := by unfold tellE; rw [if_pos (by omega)]
      rw [e1, e2]
      rcases ex_sign h with ⟨rfl, rfl⟩ | ⟨hs, hv⟩
      · have h' := h
        obtain ⟨_, l, hl, _, ho, ht, hz⟩ := h'
        have hl0 : l = [] := by
          by_cases hne : l = []
          · exact hne
          · have := lval_top ho ht hne; have := pow_pos' (l.length - 1); simp at hz; omega
        rw [hl0] at hl
        obtain rfl : len = 0 := by simpa using hl.symm
        exact fit_zero _ _ a cap w h hn rfl rfl (sign_le (by omega)) (sign_ge (by omega))
      · have h' := h
        obtain ⟨_, l, hl, hd, ho, _, hz⟩ := h'
        exact fit_in s n _ _ a len cap l w h hn rfl rfl (sign_le (by omega)) (sign_ge (by omega)) hd hl ho hs (by rw [hz]; exact hv) (by omega) (by omega)

/-- the sum so far, in its own block -/
def TAt (w : World) (n s : Int) (a : Option Addr) (len cap : Nat) (W : World) : Prop :=
  Below w.heap.size w W ∧ w.heap.size + 2 ≤ W.heap.size ∧ Res W w.heap.size ∧ Row2 W (w.heap.size + 1) (.int .i64 s) (.slice a len cap) ∧ (∃ C fr, W.heap[w.heap.size + 1]? = some (.cells C 135 fr)) ∧ Ex W s a len cap n
theorem TAt.up {w W W' : World} {n s : Int} {a : Option Addr} {len cap : Nat} (h : TAt w n s a len cap W) (hb : Below W.heap.size W W') : TAt w n s a len cap W' := by
  obtain ⟨h1, h2, h3, h4, ⟨C, fr, h5⟩, h6⟩ := h
  exact ⟨h1.trans (hb.mono (by omega)), Nat.le_trans h2 hb.size, h3.up hb (by omega), h4.below hb, ⟨C, fr, by rw [hb.block _ (heap_lt h5)]; exact h5⟩, h6.below hb⟩
theorem TAt.ex {w W : World} {n s : Int} {a : Option Addr} {len cap : Nat} (h : TAt w n s a len cap W) : Ex W s a len cap n := h.2.2.2.2.2
theorem TAt.drew {w W : World} {n s : Int} {a : Option Addr} {len cap : Nat} (h : TAt w n s a len cap W) : TAt w n s a len cap W.drew := h.up (Below.refl _ _).drew
theorem TAt.put {w W : World} {n s m t : Int} {a b : Option Addr} {len cap len2 cap2 : Nat} (h : TAt w n s a len cap W) (hE : Ex W t b len2 cap2 m) :
    TAt w m t b len2 cap2 ((W.setCell ⟨w.heap.size + 1, 0, none⟩ (.int .i64 t)).setCell ⟨w.heap.size + 1, 1, none⟩ (.slice b len2 cap2)) := by
  obtain ⟨h1, h2, ⟨⟨r0, r1, r2, r3⟩, C, fr, r4⟩, h4, h5, h6⟩ := h
  have hne : (⟨w.heap.size + 1, 0, none⟩ : Addr).block ≠ w.heap.size := by show w.heap.size + 1 ≠ w.heap.size; omega
  have hne1 : (⟨w.heap.size + 1, 1, none⟩ : Addr).block ≠ w.heap.size := by show w.heap.size + 1 ≠ w.heap.size; omega
  obtain ⟨e1, l, e2, e3, e4⟩ := hE
  refine ⟨(h1.setCell (by show w.heap.size ≤ w.heap.size + 1; omega) _).setCell (by show w.heap.size ≤ w.heap.size + 1; omega) _, by simpa using h2, ⟨⟨cSet hne1 (cSet hne r0), cSet hne1 (cSet hne r1), fSet (Ne.symm hne1) (fSet (Ne.symm hne) r2), fSet (Ne.symm hne1) (fSet (Ne.symm hne) r3)⟩, C, fr, ?_⟩, h4.put _ _, type_set (type_set h5 0 _) 1 _, ⟨e1, l, e2, (e3.set h5 0 _).set (type_set h5 0 _) 1 _, e4⟩⟩
  rw [Below.heap_setCell _ _ _ _ (Ne.symm hne1), Below.heap_setCell _ _ _ _ (Ne.symm hne)]; exact r4
theorem tat_start (w : World) : TAt w 0 0 none 0 0 ((w.alloc (.cells #[.int .i64 0, .slice none 0 0] 135)).alloc (.cells #[.int .i64 0, .slice none 0 0] 135)) := by
  have hb : Below (w.heap.size + 1) (w.alloc (.cells #[.int .i64 0, .slice none 0 0] 135)) ((w.alloc (.cells #[.int .i64 0, .slice none 0 0] 135)).alloc (.cells #[.int .i64 0, .slice none 0 0] 135)) := (Below.refl _ _).alloc (by simp) _
  have h2 := Res.start (w.alloc (.cells #[.int .i64 0, .slice none 0 0] 135))
  rw [World.size_alloc] at h2
  exact ⟨((Below.refl _ _).alloc (Nat.le_refl _) _).alloc (by simp) _, by simp, (Res.start w).up hb (by omega), h2.1, h2.2, ex_zero rfl 0⟩

theorem sum_small {f : Nat → Int} (hf : Amounts f) {k : Nat} (hk : k ≤ 1000) : Small (sumTo f k) := by
  have h := sum_bd hf k
  unfold Small
  have h3 : (1000 : Int) ^ 9 * 1 ≤ 1000 ^ (9 + 191) := by
    rw [Int.pow_add]; exact Int.mul_le_mul_of_nonneg_left (by have := pow_pos' 191; omega) (by decide)
  have h4 : (1000 : Int) ^ 9 = 1000000000000000000000000000 := by decide
  have h5 : (1000 : Int) ^ (9 + 191) = 1000 ^ 200 := rfl
  rw [h4, h5] at h3
  generalize (1000 : Int) ^ 200 = P at *
  omega

set_option maxRecDepth 100000 in
set_option maxHeartbeats 800000 in
theorem total_some (f : Nat → Int) (hf : Amounts f) (b off len cap : Nat) (w : World) (hl : len ≤ 1000) (hc : ∀ k, k < len → w.cell? ⟨b, off + k, none⟩ = some (.int .i64 (f k))) :
    Calls Tryz.prog 80 #[.slice (some ⟨b, off, none⟩) len cap] w (ExPost w (sumTo f len)) := by
  have HC := Lib.hid hc
  have HF := Lib.hid hf
  have HT := Lib.hid (tat_start w)
  clear hc hf
  go_enter Tryz.func80, Tryz.ntmps80
  go_wp2_with fail
  obtain ⟨W0, hW0⟩ : ∃ W0, W0 = ((w.alloc (.cells #[.int .i64 0, .slice none 0 0] 135)).alloc (.cells #[.int .i64 0, .slice none 0 0] 135)) := ⟨_, rfl⟩
  rw [← hW0] at HT
  rw [← hW0]
  clear hW0
  go_loopw [4] (fun i wr => ∃ k : Nat, k ≤ len ∧ i = .int .i64 k ∧ ∃ s a l2 c2, TAt w (sumTo f k) s a l2 c2 wr) (fun i _ => len - (intOf i).toNat)
  case atStart => exact ⟨0, Nat.zero_le _, rfl, _, _, _, _, HT.out⟩
  case round =>
    obtain ⟨k, hk, rfl, s, a, l2, c2, hT⟩ := hrel
    have HS := Lib.hid hT
    clear hT
    by_cases hlt : k < len
    · have hcell : wr.cell? ⟨b, off + k, none⟩ = some (.int .i64 (f k)) :=
        (HS.out.1.cell (p := ⟨b, off + k, none⟩) (World.block_lt_of_cell? (a := ⟨b, off + k, none⟩) _ (HC.out k hlt))).trans (HC.out k hlt)
      obtain ⟨f1, f2⟩ := HF.out k
      obtain ⟨c0, c1, e0, e1⟩ := HS.out.2.2.2.1
      have hk0 : (0 : Int) ≤ (k : Int) := by omega
      have hk1 : (k : Int) < (len : Int) := by omega
      go_wp2_with fail
      go_region_with (first | (go_at_call 77; ((with_reducible refine (of_any (f k) _ f1 f2).mono ?_); rintro e w1 ⟨s1, a1, n1, p1, rfl, hE1, hb1⟩; have kT1 := Lib.hid (HS.out.drew.up hb1); have kE1 := Lib.hid hE1; clear hE1 hb1; obtain ⟨x0, x1, y0, y1⟩ := kT1.out.2.2.2.1)) | (go_at_call 76; ((with_reducible refine (plus_ex s s1 (sumTo f k) (f k) a a1 l2 n1 c2 p1 _ kT1.out.ex kE1.out (sum_small HF.out (by omega)) (small64 f1 f2)).mono ?_); rintro e w2 ⟨s2, a2, n2, p2, rfl, hE2, hb2⟩; have kT2 := Lib.hid (kT1.out.up hb2); have kE2 := Lib.hid hE2; clear hE2 hb2; obtain ⟨z0, z1, t0, t1⟩ := kT2.out.2.2.2.1)))
      all_goals
        go_wp2_with fail
        go_roundw
        case rel => exact ⟨k + 1, by omega, by go_num, s2, a2, n2, p2, kT2.out.put kE2.out⟩
        case measure => simp [intOf]; omega
    · obtain ⟨c0, c1, e0, e1⟩ := HS.out.2.2.2.1
      obtain ⟨d0, d1, g0, g1⟩ := HS.out.2.2.1.1
      have hke : k = len := by omega
      subst hke
      go_wp2_with fail
      exact bodyPost_ret (v := .agg #[.int .i64 s, .slice a l2 c2]) (by simp [results, Tryz.results80, go_sem, d0, d1]) rfl
        ⟨s, a, l2, c2, rfl, ex_store HS.out.2.2.1 HS.out.2.2.2.2.2 _ _, (HS.out.1.setCell (Nat.le_refl _) _).setCell (Nat.le_refl _) _⟩
end Go.Proofs.YtklaonoekmhakaaGreat

namespace Go.Proofs.YtklaonoekmhakaaGreat

theorem dg_set_ne {l : List Int} {j k : Nat} {x : Int} (h : j ≠ k) : dg (l.set j x) k = dg l k := by
  unfold dg; simp only [List.getD_eq_getElem?_getD]; rw [List.getElem?_set_ne h]
theorem dg_set_eq {l : List Int} {j : Nat} {x : Int} (h : j < l.length) : dg (l.set j x) j = x := by
  unfold dg; rw [getD_lt (by simpa using h)]; simp
theorem vTo_set {l : List Int} {j : Nat} {x : Int} (hj : j < l.length) (k : Nat) : vTo (l.set j x) k = vTo l k + (if j < k then (x - dg l j) * 1000 ^ j else 0) := by
  induction k with
  | zero => simp [vTo]
  | succ k ih =>
    simp only [vTo]
    rw [ih]
    by_cases h1 : j = k
    · subst h1
      rw [dg_set_eq hj, if_neg (by omega), if_pos (by omega), Int.sub_mul]; omega
    · rw [dg_set_ne h1]
      by_cases h2 : j < k
      · rw [if_pos h2, if_pos (by omega)]; omega
      · rw [if_neg h2, if_neg (by omega)]; omega
theorem lval_set {l : List Int} {j : Nat} {x : Int} (hj : j < l.length) : lval (l.set j x) = lval l + (x - dg l j) * 1000 ^ j := by
  have h1 := vTo_set (x := x) hj l.length
  rw [vTo_len] at h1
  have h2 := vTo_len (l.set j x)
  rw [List.length_set] at h2
  rw [← h2, h1, if_pos hj]
theorem digOk_set {l : List Int} {j : Nat} {x : Int} (h : DigOk l) (h0 : 0 ≤ x) (h9 : x ≤ 999) : DigOk (l.set j x) := by
  intro d hd
  rcases List.mem_or_eq_of_mem_set hd with hd | rfl
  · exact h d hd
  · exact ⟨h0, h9⟩
/-- a digit takes a number, and hands its thousands on -/
theorem put_carry {l : List Int} {j : Nat} {p t : Int} (hj : j < l.length) (h : lval l + p * 1000 ^ j = t) :
    lval (l.set j ((dg l j + p) % 1000)) + (dg l j + p) / 1000 * 1000 ^ (j + 1) = t := by
  rw [lval_set hj]
  have c := carry (dg l j + p) (1000 ^ j)
  rw [Int.pow_succ, Int.sub_mul]
  rw [Int.add_mul] at c
  omega
/-- a carry ends ahead of the end -/
theorem carry_in {l : List Int} {j m : Nat} {o t : Int} (h : DigOk l) (ho : 1 ≤ o) (ht : t < 1000 ^ m) (he : lval l + o * 1000 ^ j = t) : j < m := by
  have h1 := (lval_bd h).1
  by_cases hc : j < m
  · exact hc
  · obtain ⟨d, rfl⟩ : ∃ d, j = m + d := ⟨j - m, by omega⟩
    have hp := pow_pos' m; have hq := pow_pos' d; have hpq := pow_pos' (m + d)
    have h2 : 1 * 1000 ^ (m + d) ≤ o * 1000 ^ (m + d) := Int.mul_le_mul_of_nonneg_right ho (by omega)
    have h3 : (1000 : Int) ^ m * 1 ≤ 1000 ^ (m + d) := by rw [Int.pow_add]; exact Int.mul_le_mul_of_nonneg_left (by omega) (by omega)
    omega
/-- what the rows and digits gone through so far are -/
def mulTo (a b : List Int) (i k : Nat) : Int := vTo a i * lval b + dg a i * 1000 ^ i * vTo b k
theorem mulTo_step (a b : List Int) (i k : Nat) : mulTo a b i (k + 1) = mulTo a b i k + dg a i * dg b k * 1000 ^ (i + k) := by
  unfold mulTo
  simp only [vTo]
  rw [Int.mul_add, Int.pow_add, ← Int.add_assoc]
  congr 1
  rw [Int.mul_assoc, Int.mul_assoc, ← Int.mul_assoc (1000 ^ i), Int.mul_comm (1000 ^ i) (dg b k), Int.mul_assoc]
theorem mulTo_row (a b : List Int) (i : Nat) : mulTo a b i b.length = mulTo a b (i + 1) 0 := by
  unfold mulTo
  simp only [vTo]
  rw [vTo_len, Int.mul_zero, Int.add_zero, Int.add_mul]
theorem mulTo_end (a b : List Int) : mulTo a b a.length 0 = lval a * lval b := by
  unfold mulTo; rw [vTo_len]; simp [vTo]
theorem mul_bd' {x y X Y : Int} (hx : 0 ≤ x) (hX : x < X) (hy : 0 ≤ y) (hY : y < Y) : x * y < X * Y := by
  have h1 : x * y ≤ x * Y := Int.mul_le_mul_of_nonneg_left (by omega) hx
  have h2 : (x + 1) * Y ≤ X * Y := Int.mul_le_mul_of_nonneg_right (by omega) (by omega)
  rw [Int.add_mul, Int.one_mul] at h2
  omega
theorem mulTo_lt {a b : List Int} (ha : DigOk a) (hb : DigOk b) {i k : Nat} (hi : i < a.length) (hk : k ≤ b.length) : mulTo a b i k < 1000 ^ (a.length + b.length) := by
  have hA : vTo a (i + 1) ≤ lval a := by
    have key : ∀ d, i + 1 + d ≤ a.length → vTo a (i + 1) ≤ vTo a (i + 1 + d) := by
      intro d
      induction d with
      | zero => intro _; exact Int.le_refl _
      | succ d ih =>
        intro hd
        have h1 := ih (by omega)
        have h2 := (dg_ok ha (i + 1 + d)).1; have h3 := pow_pos' (i + 1 + d)
        have h4 : 0 ≤ dg a (i + 1 + d) * 1000 ^ (i + 1 + d) := Int.mul_nonneg h2 (by omega)
        show _ ≤ vTo a (i + 1 + d + 1)
        simp only [vTo] at *; omega
    have := key (a.length - (i + 1)) (by omega)
    rw [show i + 1 + (a.length - (i + 1)) = a.length by omega, vTo_len] at this
    exact this
  have hB : vTo b k ≤ lval b := by
    have key : ∀ d, k + d ≤ b.length → vTo b k ≤ vTo b (k + d) := by
      intro d
      induction d with
      | zero => intro _; exact Int.le_refl _
      | succ d ih =>
        intro hd
        have h1 := ih (by omega)
        have h2 := (dg_ok hb (k + d)).1; have h3 := pow_pos' (k + d)
        have h4 : 0 ≤ dg b (k + d) * 1000 ^ (k + d) := Int.mul_nonneg h2 (by omega)
        show _ ≤ vTo b (k + d + 1)
        simp only [vTo]; omega
    have := key (b.length - k) (by omega)
    rw [show k + (b.length - k) = b.length by omega, vTo_len] at this
    exact this
  have ba := lval_bd ha; have bb := lval_bd hb
  have hd := dg_ok ha i; have hp := pow_pos' i
  have h1 : dg a i * 1000 ^ i * vTo b k ≤ dg a i * 1000 ^ i * lval b := Int.mul_le_mul_of_nonneg_left hB (Int.mul_nonneg hd.1 (by omega))
  have h2 : vTo a (i + 1) * lval b ≤ lval a * lval b := Int.mul_le_mul_of_nonneg_right hA bb.1
  have h3 := mul_bd' ba.1 ba.2 bb.1 bb.2
  rw [Int.pow_add]
  unfold mulTo
  simp only [vTo, Int.add_mul] at h2
  omega
end Go.Proofs.YtklaonoekmhakaaGreat
