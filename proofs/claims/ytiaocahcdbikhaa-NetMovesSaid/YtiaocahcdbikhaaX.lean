/- Contracts: Fit. -/
import Derived.Test.YtiaocahcdbikhaaW
namespace Go.Proofs.Ytiaocahcdbikhaa
open Go.RowKit

theorem lval_drop (l : List Int) (j : Nat) : lval (l.drop j) = dg l j + 1000 * lval (l.drop (j + 1)) := by
  induction l generalizing j with
  | nil => simp [lval, dg]
  | cons d l ih =>
    cases j with
    | zero => simp [lval, dg]
    | succ j => simp only [List.drop_succ_cons]; rw [ih j]; rfl
theorem digOk_drop {l : List Int} (h : DigOk l) (k : Nat) : DigOk (l.drop k) := fun d hd => h d (List.mem_of_mem_drop hd)
theorem lval_drop_le {l : List Int} (h : DigOk l) (k : Nat) : 0 ≤ lval (l.drop k) ∧ lval (l.drop k) ≤ lval l := by
  refine ⟨(lval_bd (digOk_drop h k)).1, ?_⟩
  induction k with
  | zero => simp
  | succ k ih =>
    have h1 := lval_drop l k
    have h2 := (dg_ok h k).1
    have h3 := (lval_bd (digOk_drop h (k + 1))).1
    omega

/-- the number's own block -/
def FHead (w W : World) (sa va : Value) : Prop := Below w.heap.size w W ∧ w.heap.size + 1 ≤ W.heap.size ∧ W.cell? ⟨w.heap.size, 0, none⟩ = some sa ∧ W.cell? ⟨w.heap.size, 1, none⟩ = some va
theorem FHead.up {w W W' : World} {sa va : Value} {B : Nat} (h : FHead w W sa va) (hb : Below B W W') (hB : w.heap.size + 1 ≤ B) : FHead w W' sa va := by
  obtain ⟨h1, h2, h3, h4⟩ := h
  exact ⟨h1.trans (hb.mono (by omega)), Nat.le_trans h2 hb.size, (hb.cell (p := ⟨w.heap.size, 0, none⟩) (by show w.heap.size < B; omega)).trans h3, (hb.cell (p := ⟨w.heap.size, 1, none⟩) (by show w.heap.size < B; omega)).trans h4⟩
theorem fhead_start (w : World) (sa va : Value) : FHead w (w.alloc (.cells #[sa, va] 50)) sa va := by
  have h1 := Row2.new w sa va 50
  exact ⟨(Below.refl _ _).alloc (Nat.le_refl _) _, by simp, h1.1, h1.2.1⟩
theorem FHead.drew {w W : World} {sa va : Value} (h : FHead w W sa va) : FHead w W.drew sa va := h.up (Below.refl (w.heap.size + 1) W).drew (Nat.le_refl _)
theorem FHead.drewN {w W : World} {sa va : Value} (h : FHead w W sa va) (n : Nat) : FHead w (W.drewN n) sa va := h.up (below_drewN (Below.refl (w.heap.size + 1) W) n) (Nat.le_refl _)
theorem FHead.b {w W : World} {sa va : Value} (h : FHead w W sa va) : Below w.heap.size w W := h.1
theorem FHead.sz {w W : World} {sa va : Value} (h : FHead w W sa va) : w.heap.size + 1 ≤ W.heap.size := h.2.1
theorem FHead.up' {w W W' : World} {sa va : Value} (h : FHead w W sa va) (hb : Below W.heap.size W W') : FHead w W' sa va := h.up hb h.2.1

theorem small64 {n : Int} (h1 : -9223372036854775808 ≤ n) (h2 : n ≤ 9223372036854775807) : Small n := by
  unfold Small
  have h3 : (1000 : Int) ^ 7 * 1 ≤ 1000 ^ (7 + 193) := by
    rw [Int.pow_add]; exact Int.mul_le_mul_of_nonneg_left (by have := pow_pos' 193; omega) (by decide)
  have h4 : (1000 : Int) ^ 7 = 1000000000000000000000 := by decide
  have h5 : (1000 : Int) ^ (7 + 193) = 1000 ^ 200 := rfl
  rw [h4, h5] at h3
  generalize (1000 : Int) ^ 200 = P at *
  omega

theorem sign_gt {x : Int} (h : 0 < x) : x.sign = 1 := Int.sign_eq_one_of_pos h
theorem sign_le {x : Int} (h : x ≤ 0) : x.sign ≤ 0 := by
  rcases Int.lt_trichotomy x 0 with g | g | g
  · rw [Int.sign_eq_neg_one_of_neg g]; omega
  · rw [g]; decide
  · omega
theorem sign_ge {x : Int} (h : 0 ≤ x) : 0 ≤ x.sign := by
  rcases Int.lt_trichotomy x 0 with g | g | g
  · omega
  · rw [g]; decide
  · rw [Int.sign_eq_one_of_pos g]; omega

set_option maxRecDepth 100000 in
set_option maxHeartbeats 800000 in
theorem fit_high (s n : Int) (a : Option Addr) (len cap : Nat) (w : World) (h : Ex w s a len cap n) (hn : Small n) (hv : 9223372036854775807 < n) :
    Calls Try.prog 19 #[.agg #[.int .i64 s, .slice a len cap]] w fun e w' => e = .returned (.tuple #[.int .i64 0, .int .i64 3]) ∧ Below w.heap.size w w' := by
  have HE := Lib.hid h; have HN := Lib.hid hn
  have HF := Lib.hid (fhead_start w (.int .i64 s) (.slice a len cap))
  have HG := Lib.hid (sign_gt (x := n - 9223372036854775807) (by omega))
  clear h hn hv
  go_enter Try.func19, Try.ntmps19
  go_wp2_with fail
  obtain ⟨W0, hW0⟩ : ∃ W0, W0 = w.alloc (.cells #[.int .i64 s, .slice a len cap] 50) := ⟨_, rfl⟩
  rw [← hW0] at HF
  rw [← hW0]
  clear hW0
  obtain ⟨_, _, c0, c1⟩ := HF.out
  go_region_with (first | (go_at_call 21; ((with_reducible refine (of_any 9223372036854775807 _ (by decide) (by decide)).mono ?_); rintro e w1 ⟨s1, a1, len1, cap1, rfl, hE1, hb1⟩; have kE1 := Lib.hid hE1; have kF1 := Lib.hid (HF.out.drew.up' hb1); clear hE1 hb1; obtain ⟨_, _, x0, x1⟩ := kF1.out)) | (go_at_call 31; ((with_reducible refine (cmp_ex s s1 n 9223372036854775807 a a1 len len1 cap cap1 _ (HE.out.below kF1.out.b) kE1.out HN.out (small64 (by decide) (by decide))).mono ?_); rintro e w2 ⟨he2, hb2⟩; rw [HG.out] at he2; subst he2; have kF2 := Lib.hid (kF1.out.up' hb2); clear hb2; obtain ⟨_, _, y0, y1⟩ := kF2.out)))
  all_goals
    simp only [Act.put, List.getElem_toArray, List.getElem_cons_succ, List.getElem_cons_zero, List.setIfInBounds_toArray, List.set_cons_succ, List.set_cons_zero]
    clear x0 x1 y0 y1 c0 c1
    go_wp2_with fail
    go_ret2
    exact ⟨rfl, kF2.out.b⟩

def FQ (N : Nat) (W : World) (sa va : Value) : Prop := W.cell? ⟨N, 0, none⟩ = some sa ∧ W.cell? ⟨N, 1, none⟩ = some va
theorem FHead.q {w W : World} {sa va : Value} (h : FHead w W sa va) : FQ w.heap.size W sa va := ⟨h.2.2.1, h.2.2.2⟩

set_option maxRecDepth 100000 in
set_option maxHeartbeats 800000 in
theorem fit_low (s n q r : Int) (a : Option Addr) (len cap : Nat) (w : World) (h : Ex w s a len cap n) (hn : Small n) (hq : (n - 9223372036854775807).sign = q) (hr : (n - -9223372036854775808).sign = r) (hq0 : q ≤ 0) (hr0 : r < 0) :
    Calls Try.prog 19 #[.agg #[.int .i64 s, .slice a len cap]] w fun e w' => e = .returned (.tuple #[.int .i64 0, .int .i64 3]) ∧ Below w.heap.size w w' := by
  have HE := Lib.hid h; have HN := Lib.hid hn; have HQ := Lib.hid hq; have HR := Lib.hid hr
  have HF := Lib.hid (fhead_start w (.int .i64 s) (.slice a len cap))
  have t1 : decide (0 < q) = false := by simp; omega
  have t2 : decide (r < 0) = true := by simp; omega
  clear h hn hq hr
  go_enter Try.func19, Try.ntmps19
  go_wp2_with fail
  obtain ⟨W0, hW0⟩ : ∃ W0, W0 = w.alloc (.cells #[.int .i64 s, .slice a len cap] 50) := ⟨_, rfl⟩
  rw [← hW0] at HF
  rw [← hW0]
  clear hW0
  obtain ⟨_, _, c0, c1⟩ := HF.out
  go_region_held3 (fun w' => w'.cell? ⟨w.heap.size, 0, none⟩ = some (.int .i64 s) ∧ w'.cell? ⟨w.heap.size, 1, none⟩ = some (.slice a len cap))
    ((change FQ w.heap.size _ _ _; with_reducible (first | exact HF.out.drew.q | exact kF1.out.q | exact kF2.out.q | exact kF3.out.q | exact kF4.out.q)))
    (first | (go_at_call_of 21 (Value.int .i64 9223372036854775807); ((with_reducible refine (of_any 9223372036854775807 _ (by decide) (by decide)).mono ?_); rintro e w1 ⟨s1, a1, len1, cap1, rfl, hE1, hb1⟩; have kE1 := Lib.hid hE1; have kF1 := Lib.hid (HF.out.drew.up' hb1); clear hE1 hb1)) | (go_at_call 21; (refine (of_any (-9223372036854775808) _ (by decide) (by decide)).mono ?_; rintro e w3 ⟨s3, a3, len3, cap3, rfl, hE3, hb3⟩; have kE3 := Lib.hid hE3; have kF3 := Lib.hid (kF2.out.up' hb3); clear hE3 hb3)) | (go_at_call 31; ((with_reducible refine (cmp_ex s s1 n 9223372036854775807 a a1 len len1 cap cap1 _ (HE.out.below kF1.out.b) kE1.out HN.out (small64 (by decide) (by decide))).mono ?_); rintro e w2 ⟨he2, hb2⟩; rw [HQ.out] at he2; subst he2; have kF2 := Lib.hid (kF1.out.up' hb2); clear hb2)) | (go_at_call 31; ((with_reducible refine (cmp_ex s s3 n (-9223372036854775808) a a3 len len3 cap cap3 _ (HE.out.below kF3.out.b) kE3.out HN.out (small64 (by decide) (by decide))).mono ?_); rintro e w4 ⟨he4, hb4⟩; rw [HR.out] at he4; subst he4; have kF4 := Lib.hid (kF3.out.up' hb4); clear hb4)))
  go_wp2_with fail
  go_ret2
  exact ⟨rfl, kF4.out.b⟩
end Go.Proofs.Ytiaocahcdbikhaa
