/- Contracts: Fit of any number, Total. -/
import Derived.Test.YtobdcogaphkogaaY
import Derived.Test.YtobdcogaphkogaaBoMem
namespace Go.Proofs.Ytobdcogaphkogaa
open Go.RowKit

set_option maxRecDepth 100000 in
set_option maxHeartbeats 800000 in
theorem fit_zero (q r : Int) (a : Option Addr) (cap : Nat) (w : World) (h : Ex w 0 a 0 cap 0) (hn : Small 0) (hq : ((0 : Int) - 9223372036854775807).sign = q) (hr : ((0 : Int) - -9223372036854775808).sign = r) (hq0 : q ≤ 0) (hr0 : 0 ≤ r) :
    Calls Try.prog 31 #[.agg #[.int .i64 0, .slice a 0 cap]] w fun e w' => e = .returned (.tuple #[.int .i64 0, .int .i64 0]) ∧ Below w.heap.size w w' := by
  have HE := Lib.hid h; have HN := Lib.hid hn; have HQ := Lib.hid hq; have HR := Lib.hid hr
  have HF := Lib.hid (fhead_start w (.int .i64 0) (.slice a 0 cap))
  have t1 : decide (0 < q) = false := by simp; omega
  have t2 : decide (r < 0) = false := by simp; omega
  clear h hn hq hr
  go_enter Try.func31, Try.ntmps31
  go_wp2_with fail
  obtain ⟨W0, hW0⟩ : ∃ W0, W0 = w.alloc (.cells #[.int .i64 0, .slice a 0 cap] 69) := ⟨_, rfl⟩
  rw [← hW0] at HF
  rw [← hW0]
  clear hW0
  obtain ⟨_, _, c0, c1⟩ := HF.out
  go_region_held3 (fun w' => w'.cell? ⟨w.heap.size, 0, none⟩ = some (.int .i64 0) ∧ w'.cell? ⟨w.heap.size, 1, none⟩ = some (.slice a 0 cap))
    ((change FQ w.heap.size _ _ _; with_reducible (first | exact HF.out.drew.q | exact kF1.out.q | exact kF2.out.q | exact kF3.out.q | exact kF4.out.q)))
    (first | (go_at_call_of 29 (Value.int .i64 9223372036854775807); ((with_reducible refine (of_any 9223372036854775807 _ (by decide) (by decide)).mono ?_); rintro e w1 ⟨s1, a1, len1, cap1, rfl, hE1, hb1⟩; have kE1 := Lib.hid hE1; have kF1 := Lib.hid (HF.out.drew.up' hb1); clear hE1 hb1)) | (go_at_call 29; (refine (of_any (-9223372036854775808) _ (by decide) (by decide)).mono ?_; rintro e w3 ⟨s3, a3, len3, cap3, rfl, hE3, hb3⟩; have kE3 := Lib.hid hE3; have kF3 := Lib.hid (kF2.out.up' hb3); clear hE3 hb3)) | (go_at_call 47; ((with_reducible refine (cmp_ex 0 s1 0 9223372036854775807 a a1 0 len1 cap cap1 _ (HE.out.below kF1.out.b) kE1.out HN.out (small64 (by decide) (by decide))).mono ?_); rintro e w2 ⟨he2, hb2⟩; rw [HQ.out] at he2; subst he2; have kF2 := Lib.hid (kF1.out.up' hb2); clear hb2)) | (go_at_call 47; ((with_reducible refine (cmp_ex 0 s3 0 (-9223372036854775808) a a3 0 len3 cap cap3 _ (HE.out.below kF3.out.b) kE3.out HN.out (small64 (by decide) (by decide))).mono ?_); rintro e w4 ⟨he4, hb4⟩; rw [HR.out] at he4; subst he4; have kF4 := Lib.hid (kF3.out.up' hb4); clear hb4)))
  clear c0 c1
  have HF4 := kF4
  clear kF1 kF2 kF3 kF4 kE1 kE3
  obtain ⟨_, _, c0, c1⟩ := HF4.out
  go_wp2_with fail
  clear c0 c1
  go_loopw [4, 5] (fun v i W => i = .int .i64 (-1) ∧ v = .int .i64 0 ∧ W = w4) (fun _ _ _ => 0)
  case atStart => exact ⟨rfl, rfl, rfl⟩
  case round =>
    obtain ⟨rfl, rfl, rfl⟩ := hrel
    go_wp2_with fail
    go_ret2
    exact ⟨rfl, HF4.out.b⟩

theorem fit_any (s n : Int) (a : Option Addr) (len cap : Nat) (w : World) (h : Ex w s a len cap n) (hn : Small n) :
    Calls Try.prog 31 #[.agg #[.int .i64 s, .slice a len cap]] w fun e w' => e = .returned (.tuple #[.int .i64 (tellV n), .int .i64 (tellE n)]) ∧ Below w.heap.size w w' := by
  by_cases h1 : 9223372036854775807 < n
  · have e1 : tellV n = 0 := by unfold tellV; rw [if_neg (by omega)]
    have e2 : tellE n = 3 := by unfold tellE; rw [if_neg (by omega)]
    rw [e1, e2]; exact fit_high s n a len cap w h hn h1
  · by_cases h2 : n < -9223372036854775808
    · have e1 : tellV n = 0 := by unfold tellV; rw [if_neg (by omega)]
      have e2 : tellE n = 3 := by unfold tellE; rw [if_neg (by omega)]
      rw [e1, e2]
      exact fit_low s n _ _ a len cap w h hn rfl rfl (sign_le (by omega)) (by rw [Int.sign_eq_neg_one_of_neg (by omega)]; omega)
    · have e1 : tellV n = n := by unfold tellV; rw [if_pos (by omega)]
      have e2 : tellE n = 0 := by unfold tellE; rw [if_pos (by omega)]
      rw [e1, e2]
      rcases ex_sign h with ⟨rfl, rfl⟩ | ⟨hs, hv⟩
      · have h' := h
        obtain ⟨_, l, hl, _, ho, ht, hz⟩ := h'
        have hl0 : l = [] := by
          by_cases hne : l = []
          · exact hne
          · have := lval_top ho ht hne; have := pow_pos' (l.length - 1); simp at hz; omega
        rw [hl0] at hl
        obtain rfl : len = 0 := by simpa using hl.symm
        exact fit_zero _ _ a cap w h hn rfl rfl (sign_le (by omega)) (sign_ge (by omega))
      · have h' := h
        obtain ⟨_, l, hl, hd, ho, _, hz⟩ := h'
        exact fit_in s n _ _ a len cap l w h hn rfl rfl (sign_le (by omega)) (sign_ge (by omega)) hd hl ho hs (by rw [hz]; exact hv) (by omega) (by omega)

/-- the sum so far, in its own block -/
def TAt (w : World) (n s : Int) (a : Option Addr) (len cap : Nat) (W : World) : Prop :=
  Below w.heap.size w W ∧ w.heap.size + 2 ≤ W.heap.size ∧ Res W w.heap.size ∧ Row2 W (w.heap.size + 1) (.int .i64 s) (.slice a len cap) ∧ (∃ C fr, W.heap[w.heap.size + 1]? = some (.cells C 69 fr)) ∧ Ex W s a len cap n
theorem TAt.up {w W W' : World} {n s : Int} {a : Option Addr} {len cap : Nat} (h : TAt w n s a len cap W) (hb : Below W.heap.size W W') : TAt w n s a len cap W' := by
  obtain ⟨h1, h2, h3, h4, ⟨C, fr, h5⟩, h6⟩ := h
  exact ⟨h1.trans (hb.mono (by omega)), Nat.le_trans h2 hb.size, h3.up hb (by omega), h4.below hb, ⟨C, fr, by rw [hb.block _ (heap_lt h5)]; exact h5⟩, h6.below hb⟩
theorem TAt.ex {w W : World} {n s : Int} {a : Option Addr} {len cap : Nat} (h : TAt w n s a len cap W) : Ex W s a len cap n := h.2.2.2.2.2
theorem TAt.drew {w W : World} {n s : Int} {a : Option Addr} {len cap : Nat} (h : TAt w n s a len cap W) : TAt w n s a len cap W.drew := h.up (Below.refl _ _).drew
theorem TAt.put {w W : World} {n s m t : Int} {a b : Option Addr} {len cap len2 cap2 : Nat} (h : TAt w n s a len cap W) (hE : Ex W t b len2 cap2 m) :
    TAt w m t b len2 cap2 ((W.setCell ⟨w.heap.size + 1, 0, none⟩ (.int .i64 t)).setCell ⟨w.heap.size + 1, 1, none⟩ (.slice b len2 cap2)) := by
  obtain ⟨h1, h2, ⟨⟨r0, r1, r2, r3⟩, C, fr, r4⟩, h4, h5, h6⟩ := h
  have hne : (⟨w.heap.size + 1, 0, none⟩ : Addr).block ≠ w.heap.size := by show w.heap.size + 1 ≠ w.heap.size; omega
  have hne1 : (⟨w.heap.size + 1, 1, none⟩ : Addr).block ≠ w.heap.size := by show w.heap.size + 1 ≠ w.heap.size; omega
  obtain ⟨e1, l, e2, e3, e4⟩ := hE
  refine ⟨(h1.setCell (by show w.heap.size ≤ w.heap.size + 1; omega) _).setCell (by show w.heap.size ≤ w.heap.size + 1; omega) _, by simpa using h2, ⟨⟨cSet hne1 (cSet hne r0), cSet hne1 (cSet hne r1), fSet (Ne.symm hne1) (fSet (Ne.symm hne) r2), fSet (Ne.symm hne1) (fSet (Ne.symm hne) r3)⟩, C, fr, ?_⟩, h4.put _ _, type_set (type_set h5 0 _) 1 _, ⟨e1, l, e2, (e3.set h5 0 _).set (type_set h5 0 _) 1 _, e4⟩⟩
  rw [Below.heap_setCell _ _ _ _ (Ne.symm hne1), Below.heap_setCell _ _ _ _ (Ne.symm hne)]; exact r4
theorem tat_start (w : World) : TAt w 0 0 none 0 0 ((w.alloc (.cells #[.int .i64 0, .slice none 0 0] 69)).alloc (.cells #[.int .i64 0, .slice none 0 0] 69)) := by
  have hb : Below (w.heap.size + 1) (w.alloc (.cells #[.int .i64 0, .slice none 0 0] 69)) ((w.alloc (.cells #[.int .i64 0, .slice none 0 0] 69)).alloc (.cells #[.int .i64 0, .slice none 0 0] 69)) := (Below.refl _ _).alloc (by simp) _
  have h2 := Res.start (w.alloc (.cells #[.int .i64 0, .slice none 0 0] 69))
  rw [World.size_alloc] at h2
  exact ⟨((Below.refl _ _).alloc (Nat.le_refl _) _).alloc (by simp) _, by simp, (Res.start w).up hb (by omega), h2.1, h2.2, ex_zero rfl 0⟩

theorem sum_small {f : Nat → Int} (hf : Amounts f) {k : Nat} (hk : k ≤ 1000) : Small (sumTo f k) := by
  have h := sum_bd hf k
  unfold Small
  have h3 : (1000 : Int) ^ 9 * 1 ≤ 1000 ^ (9 + 191) := by
    rw [Int.pow_add]; exact Int.mul_le_mul_of_nonneg_left (by have := pow_pos' 191; omega) (by decide)
  have h4 : (1000 : Int) ^ 9 = 1000000000000000000000000000 := by decide
  have h5 : (1000 : Int) ^ (9 + 191) = 1000 ^ 200 := rfl
  rw [h4, h5] at h3
  generalize (1000 : Int) ^ 200 = P at *
  omega

end Go.Proofs.Ytobdcogaphkogaa

namespace Go.Proofs.Ytobdcogaphkogaa
open Go.RowKit

theorem mul_small {a b : Int} (ha : Am a) (hb : Am b) : Small (a * b) := by
  unfold Am at ha hb
  have h1 : a.natAbs ≤ 9223372036854775808 := by omega
  have h2 : b.natAbs ≤ 9223372036854775808 := by omega
  have h3 : (a * b).natAbs ≤ 9223372036854775808 * 9223372036854775808 := by
    rw [Int.natAbs_mul]; exact Nat.mul_le_mul h1 h2
  have h3' : ((a * b).natAbs : Int) ≤ 85070591730234615865843651857942052864 := by omega
  have h5 : (1000 : Int) ^ 20 * 1 ≤ 1000 ^ (20 + 180) := by
    rw [Int.pow_add]; exact Int.mul_le_mul_of_nonneg_left (by have := pow_pos' 180; omega) (by decide)
  have h6 : (1000 : Int) ^ 20 = 1000000000000000000000000000000000000000000000000000000000000 := by decide
  have h7 : (1000 : Int) ^ (20 + 180) = 1000 ^ 200 := rfl
  rw [h6, h7] at h5
  unfold Small
  generalize (1000 : Int) ^ 200 = P at *
  omega
/-- digits lie in blocks of integers: a store into a block of another type leaves them -/
theorem Dg.off {W : World} {a : Option Addr} {cap : Nat} {l : List Int} (h : Dg W a cap l) {N T : Nat} {cs : Array Value} (hN : Has W N T cs) (hT : T ≠ 3) (k : Nat) (u : Value) : Dg (W.setCell ⟨N, k, none⟩ u) a cap l := by
  rcases h with h | ⟨g, h1, h2, ⟨cur, fr, h4⟩, h3⟩
  · exact .inl h
  · have hne : g ≠ N := by
      intro e; subst e
      unfold Has at hN
      rw [hN] at h4
      injection h4 with h4
      injection h4 with _ e
      exact hT e
    refine .inr ⟨g, h1, h2, ⟨cur, fr, ?_⟩, fun i hi => cset (h3 i hi) (.inl hne)⟩
    rw [Below.heap_setCell W ⟨N, k, none⟩ u g hne]; exact h4
theorem Ex.off {W : World} {s : Int} {a : Option Addr} {len cap : Nat} {n : Int} (h : Ex W s a len cap n) {N T : Nat} {cs : Array Value} (hN : Has W N T cs) (hT : T ≠ 3) (k : Nat) (u : Value) : Ex (W.setCell ⟨N, k, none⟩ u) s a len cap n := by
  obtain ⟨h1, l, h2, h3, h4⟩ := h
  exact ⟨h1, l, h2, h3.off hN hT k u, h4⟩
/-- a sum in a box -/
structure SmX (W : World) (b : Nat) (v s : Int) (a : Option Addr) (len cap : Nat) : Prop where
  has : Has W b 69 #[.int .i64 s, .slice a len cap]
  ex : Ex W s a len cap v
section
variable {W W' : World} {b : Nat} {v s : Int} {a : Option Addr} {len cap : Nat}
theorem SmX.up (h : SmX W b v s a len cap) (q : Below W.heap.size W W') : SmX W' b v s a len cap := ⟨h.has.up q, h.ex.below q⟩
theorem SmX.drew (h : SmX W b v s a len cap) : SmX W.drew b v s a len cap := h.up (Below.refl _ _).drew
theorem SmX.start (w : World) : SmX (w.alloc (.cells #[.int .i64 0, .slice none 0 0] 69)) w.heap.size 0 0 none 0 0 := ⟨Has.fresh _ _ _, ex_zero rfl 0⟩
theorem SmX.row (h : SmX W b v s a len cap) : Row2 W b (.int .i64 s) (.slice a len cap) := ⟨h.has.cell 0, h.has.cell 1, h.has.free 0, h.has.free 1⟩
theorem SmX.put (h : SmX W b v s a len cap) {t m : Int} {a2 : Option Addr} {len2 cap2 : Nat} (hE : Ex W t a2 len2 cap2 m) : SmX ((W.setCell ⟨b, 0, none⟩ (.int .i64 t)).setCell ⟨b, 1, none⟩ (.slice a2 len2 cap2)) b m t a2 len2 cap2 := by
  have h1 := h.has.put 0 (.int .i64 t)
  exact ⟨h1.put 1 _, (hE.off h.has (by decide) 0 _).off h1 (by decide) 1 _⟩
/-- a store into another box of another type, or of exact numbers -/
theorem SmX.off (h : SmX W b v s a len cap) {N T : Nat} {cs : Array Value} (hN : Has W N T cs) (hT : T ≠ 3) (hne : b ≠ N) (k : Nat) (u : Value) : SmX (W.setCell ⟨N, k, none⟩ u) b v s a len cap :=
  ⟨h.has.off (p := ⟨N, k, none⟩) hne u, h.ex.off hN hT k u⟩
end
theorem small126 {x : Int} (h : -85070591730234615865843651857942052864 ≤ x ∧ x ≤ 85070591730234615865843651857942052864) : Small x := by
  have h3' : (x.natAbs : Int) ≤ 85070591730234615865843651857942052864 := by omega
  have h5 : (1000 : Int) ^ 20 * 1 ≤ 1000 ^ (20 + 180) := by
    rw [Int.pow_add]; exact Int.mul_le_mul_of_nonneg_left (by have := pow_pos' 180; omega) (by decide)
  have h6 : (1000 : Int) ^ 20 = 1000000000000000000000000000000000000000000000000000000000000 := by decide
  have h7 : (1000 : Int) ^ (20 + 180) = 1000 ^ 200 := rfl
  rw [h6, h7] at h5
  unfold Small
  generalize (1000 : Int) ^ 200 = P at *
  omega
theorem SmX.of {W : World} {s : Int} {a : Option Addr} {len cap : Nat} {n : Int} (h : Ex W s a len cap n) : SmX (W.alloc (.cells #[.int .i64 s, .slice a len cap] 69)) W.heap.size n s a len cap :=
  ⟨Has.fresh _ _ _, h.below (boxed _ _)⟩
theorem SmX.lt {W : World} {b : Nat} {v s : Int} {a : Option Addr} {len cap : Nat} (h : SmX W b v s a len cap) : b < W.heap.size := h.has.lt
end Go.Proofs.Ytobdcogaphkogaa
