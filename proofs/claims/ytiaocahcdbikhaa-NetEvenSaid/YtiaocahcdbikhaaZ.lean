/- Contracts: Fit of any number, Total. -/
import Derived.Test.YtiaocahcdbikhaaY
namespace Go.Proofs.Ytiaocahcdbikhaa
open Go.RowKit

set_option maxRecDepth 100000 in
set_option maxHeartbeats 800000 in
theorem fit_zero (q r : Int) (a : Option Addr) (cap : Nat) (w : World) (h : Ex w 0 a 0 cap 0) (hn : Small 0) (hq : ((0 : Int) - 9223372036854775807).sign = q) (hr : ((0 : Int) - -9223372036854775808).sign = r) (hq0 : q ≤ 0) (hr0 : 0 ≤ r) :
    Calls Try.prog 19 #[.agg #[.int .i64 0, .slice a 0 cap]] w fun e w' => e = .returned (.tuple #[.int .i64 0, .int .i64 0]) ∧ Below w.heap.size w w' := by
  have HE := Lib.hid h; have HN := Lib.hid hn; have HQ := Lib.hid hq; have HR := Lib.hid hr
  have HF := Lib.hid (fhead_start w (.int .i64 0) (.slice a 0 cap))
  have t1 : decide (0 < q) = false := by simp; omega
  have t2 : decide (r < 0) = false := by simp; omega
  clear h hn hq hr
  go_enter Try.func19, Try.ntmps19
  go_wp2_with fail
  obtain ⟨W0, hW0⟩ : ∃ W0, W0 = w.alloc (.cells #[.int .i64 0, .slice a 0 cap] 50) := ⟨_, rfl⟩
  rw [← hW0] at HF
  rw [← hW0]
  clear hW0
  obtain ⟨_, _, c0, c1⟩ := HF.out
  go_region_held3 (fun w' => w'.cell? ⟨w.heap.size, 0, none⟩ = some (.int .i64 0) ∧ w'.cell? ⟨w.heap.size, 1, none⟩ = some (.slice a 0 cap))
    ((change FQ w.heap.size _ _ _; with_reducible (first | exact HF.out.drew.q | exact kF1.out.q | exact kF2.out.q | exact kF3.out.q | exact kF4.out.q)))
    (first | (go_at_call_of 21 (Value.int .i64 9223372036854775807); ((with_reducible refine (of_any 9223372036854775807 _ (by decide) (by decide)).mono ?_); rintro e w1 ⟨s1, a1, len1, cap1, rfl, hE1, hb1⟩; have kE1 := Lib.hid hE1; have kF1 := Lib.hid (HF.out.drew.up' hb1); clear hE1 hb1)) | (go_at_call 21; (refine (of_any (-9223372036854775808) _ (by decide) (by decide)).mono ?_; rintro e w3 ⟨s3, a3, len3, cap3, rfl, hE3, hb3⟩; have kE3 := Lib.hid hE3; have kF3 := Lib.hid (kF2.out.up' hb3); clear hE3 hb3)) | (go_at_call 31; ((with_reducible refine (cmp_ex 0 s1 0 9223372036854775807 a a1 0 len1 cap cap1 _ (HE.out.below kF1.out.b) kE1.out HN.out (small64 (by decide) (by decide))).mono ?_); rintro e w2 ⟨he2, hb2⟩; rw [HQ.out] at he2; subst he2; have kF2 := Lib.hid (kF1.out.up' hb2); clear hb2)) | (go_at_call 31; ((with_reducible refine (cmp_ex 0 s3 0 (-9223372036854775808) a a3 0 len3 cap cap3 _ (HE.out.below kF3.out.b) kE3.out HN.out (small64 (by decide) (by decide))).mono ?_); rintro e w4 ⟨he4, hb4⟩; rw [HR.out] at he4; subst he4; have kF4 := Lib.hid (kF3.out.up' hb4); clear hb4)))
  clear c0 c1
  have HF4 := kF4
  clear kF1 kF2 kF3 kF4 kE1 kE3
  obtain ⟨_, _, c0, c1⟩ := HF4.out
  go_wp2_with fail
  clear c0 c1
  go_loopw [4, 5] (fun v i W => i = .int .i64 (-1) ∧ v = .int .i64 0 ∧ W = w4) (fun _ _ _ => 0)
  case atStart => exact ⟨rfl, rfl, rfl⟩
  case round =>
    obtain ⟨rfl, rfl, rfl⟩ := hrel
    go_wp2_with fail
    go_ret2
    exact ⟨rfl, HF4.out.b⟩

theorem fit_any (s n : Int) (a : Option Addr) (len cap : Nat) (w : World) (h : Ex w s a len cap n) (hn : Small n) :
    Calls Try.prog 19 #[.agg #[.int .i64 s, .slice a len cap]] w fun e w' => e = .returned (.tuple #[.int .i64 (tellV n), .int .i64 (tellE n)]) ∧ Below w.heap.size w w' := by
  by_cases h1 : 9223372036854775807 < n
  · have e1 : tellV n = 0 := by unfold tellV; rw [if_neg (by omega)]
    have e2 : tellE n = 3 := by unfold tellE; rw [if_neg (by omega)]
    rw [e1, e2]; exact fit_high s n a len cap w h hn h1
  · by_cases h2 : n < -9223372036854775808
    · have e1 : tellV n = 0 := by unfold tellV; rw [if_neg (by omega)]
      have e2 : tellE n = 3 := by unfold tellE; rw [if_neg (by omega)]
      rw [e1, e2]
      exact fit_low s n _ _ a len cap w h hn rfl rfl (sign_le (by omega)) (by rw [Int.sign_eq_neg_one_of_neg (by omega)]; omega)
    · have e1 : tellV n = n := by unfold tellV; rw [if_pos (by omega)]
      have e2 : tellE n = 0 := by unfold tellE; rw [if_pos (by omega)]
      rw [e1, e2]
      rcases ex_sign h with ⟨rfl, rfl⟩ | ⟨hs, hv⟩
      · have h' := h
        obtain ⟨_, l, hl, _, ho, ht, hz⟩ := h'
        have hl0 : l = [] := by
          by_cases hne : l = []
          · exact hne
          · have := lval_top ho ht hne; have := pow_pos' (l.length - 1); simp at hz; omega
        rw [hl0] at hl
        obtain rfl : len = 0 := by simpa using hl.symm
        exact fit_zero _ _ a cap w h hn rfl rfl (sign_le (by omega)) (sign_ge (by omega))
      · have h' := h
        obtain ⟨_, l, hl, hd, ho, _, hz⟩ := h'
        exact fit_in s n _ _ a len cap l w h hn rfl rfl (sign_le (by omega)) (sign_ge (by omega)) hd hl ho hs (by rw [hz]; exact hv) (by omega) (by omega)

/-- the sum so far, in its own block -/
def TAt (w : World) (n s : Int) (a : Option Addr) (len cap : Nat) (W : World) : Prop :=
  Below w.heap.size w W ∧ w.heap.size + 2 ≤ W.heap.size ∧ Res W w.heap.size ∧ Row2 W (w.heap.size + 1) (.int .i64 s) (.slice a len cap) ∧ (∃ C fr, W.heap[w.heap.size + 1]? = some (.cells C 50 fr)) ∧ Ex W s a len cap n
theorem TAt.up {w W W' : World} {n s : Int} {a : Option Addr} {len cap : Nat} (h : TAt w n s a len cap W) (hb : Below W.heap.size W W') : TAt w n s a len cap W' := by
  obtain ⟨h1, h2, h3, h4, ⟨C, fr, h5⟩, h6⟩ := h
  exact ⟨h1.trans (hb.mono (by omega)), Nat.le_trans h2 hb.size, h3.up hb (by omega), h4.below hb, ⟨C, fr, by rw [hb.block _ (heap_lt h5)]; exact h5⟩, h6.below hb⟩
theorem TAt.drew {w W : World} {n s : Int} {a : Option Addr} {len cap : Nat} (h : TAt w n s a len cap W) : TAt w n s a len cap W.drew := h.up (Below.refl _ _).drew
theorem TAt.put {w W : World} {n s m t : Int} {a b : Option Addr} {len cap len2 cap2 : Nat} (h : TAt w n s a len cap W) (hE : Ex W t b len2 cap2 m) :
    TAt w m t b len2 cap2 ((W.setCell ⟨w.heap.size + 1, 0, none⟩ (.int .i64 t)).setCell ⟨w.heap.size + 1, 1, none⟩ (.slice b len2 cap2)) := by
  obtain ⟨h1, h2, ⟨⟨r0, r1, r2, r3⟩, C, fr, r4⟩, h4, h5, h6⟩ := h
  have hne : (⟨w.heap.size + 1, 0, none⟩ : Addr).block ≠ w.heap.size := by show w.heap.size + 1 ≠ w.heap.size; omega
  have hne1 : (⟨w.heap.size + 1, 1, none⟩ : Addr).block ≠ w.heap.size := by show w.heap.size + 1 ≠ w.heap.size; omega
  obtain ⟨e1, l, e2, e3, e4⟩ := hE
  refine ⟨(h1.setCell (by show w.heap.size ≤ w.heap.size + 1; omega) _).setCell (by show w.heap.size ≤ w.heap.size + 1; omega) _, by simpa using h2, ⟨⟨cSet hne1 (cSet hne r0), cSet hne1 (cSet hne r1), fSet (Ne.symm hne1) (fSet (Ne.symm hne) r2), fSet (Ne.symm hne1) (fSet (Ne.symm hne) r3)⟩, C, fr, ?_⟩, h4.put _ _, type_set (type_set h5 0 _) 1 _, ⟨e1, l, e2, (e3.set h5 0 _).set (type_set h5 0 _) 1 _, e4⟩⟩
  rw [Below.heap_setCell _ _ _ _ (Ne.symm hne1), Below.heap_setCell _ _ _ _ (Ne.symm hne)]; exact r4
end Go.Proofs.Ytiaocahcdbikhaa
