/- Contract: the reference's Out, of any weights and totals. -/
import Derived.Test.YtklaonoekmhakaaGreatRoOut
import Derived.Test.YtklaonoekmhakaaGreatBoA
import Derived.Test.YtklaonoekmhakaaGreatByMath
import Derived.Test.YtklaonoekmhakaaGreatOv
namespace Go.Proofs.YtklaonoekmhakaaGreat
open Go.RowKit
variable {total : Int} {f : Nat → Int} {n : Nat}

theorem outE_arg (hn : n ≤ 64) (h : (∃ t, t < n ∧ f t < 0) ∨ someB f n = false) : outE total f n = 1 := by
  unfold outE
  rw [if_neg (by omega), if_pos]
  by_cases h0 : n = 0
  · exact .inl h0
  · right
    by_cases h1 : minN f n < 0
    · exact .inl h1
    · right
      rcases h with ⟨t, t1, t2⟩ | h
      · have := minN_le f t1; omega
      · obtain ⟨k, k1, k2⟩ := maxN_is f (n := n) (by omega)
        have := minN_le f k1
        have q : ¬ 0 < f k := fun q => by have := (someB_iff f n).2 ⟨k, k1, q⟩; rw [h] at this; cases this
        omega
theorem outE_rest (hn : n ≤ 64) (hp : ∀ t, t < n → 0 ≤ f t) (hs : someB f n = true) : outE total f n = if ¬ (sumN f n ≤ 9223372036854775807) ∨ total = -9223372036854775808 then 3 else 0 := by
  obtain ⟨t, t1, t2⟩ := (someB_iff f n).1 hs
  unfold outE
  rw [if_neg (by omega), if_neg]
  rintro (q | q | q)
  · omega
  · obtain ⟨k, k1, k2⟩ := minN_is f (n := n) (by omega); have := hp k k1; omega
  · have := maxN_ge f t1; omega

def RPost (w : World) (total : Int) (f : Nat → Int) (n : Nat) (e : Ending) (w' : World) : Prop := RListed w (outE total f n) n (outV total f n) e w'
theorem rpost_err {w w' : World} {err : Int} {e : Ending} (h : outE total f n = err) (h0 : err ≠ 0) (hb : Below w.heap.size w w') (he : e = .returned (.tuple #[.slice none 0 0, .int .i64 err])) : RPost w total f n e w' := by
  unfold RPost; rw [h]; exact ⟨hb, .inl ⟨h0, he⟩⟩

set_option maxRecDepth 1000000 in
theorem rout_full (total : Int) (a : Option Addr) (n cap : Nat) (w : World) (h : 64 < n) :
    Calls Tryz.prog 82 #[.int .i64 total, .slice a n cap] w fun e w' => e = .returned (.tuple #[.slice none 0 0, .int .i64 4]) ∧ w = w' := by
  have hz : (64 : Int) < (n : Int) := by omega
  go_enter Tryz.func82, Tryz.ntmps82
  go_wp2_with fail
  go_ret2
  exact ⟨rfl, rfl⟩

set_option maxRecDepth 1000000 in
set_option maxHeartbeats 40000000 in
theorem rout_else (total : Int) (f : Nat → Int) (a : Option Addr) (n cap : Nat) (w : World) (hf : Amounts f) (t1 : -9223372036854775808 ≤ total) (t2 : total ≤ 9223372036854775807) (hn : n ≤ 64) (hA : Arg w a n f) (hno : outE total f n ≠ 0 ∨ total < 0) :
    Calls Tryz.prog 82 #[.int .i64 total, .slice a n cap] w (RPost w total f n) := by
  have HA := Lib.hid hA
  have HF := Lib.hid hf
  have HNo := Lib.hid hno
  have hz : ¬ (64 : Int) < (n : Int) := by omega
  clear hA hf hno
  go_enter Tryz.func82, Tryz.ntmps82
  go_wp2_with fail
  go_loop [6, 7] (fun vs vi => ∃ k : Nat, k ≤ n ∧ vi = .int .i64 k ∧ vs = .bool (someB f k) ∧ Hid (∀ t, t < k → 0 ≤ f t)) (fun _ vi => n - (intOf vi).toNat)
  case atStart => exact ⟨0, Nat.zero_le _, rfl, rfl, (fun t ht => by omega)⟩
  case round =>
    obtain ⟨k, hk, rfl, rfl, HP⟩ := hrel
    by_cases hlt : k < n
    · obtain ⟨b, off, ha, hr⟩ := HA.out (by omega)
      subst ha
      have c1 := hr k hlt
      clear hr
      by_cases c2 : f k < 0
      · have HE : Hid (outE total f n = 1) := outE_arg hn (.inl ⟨k, hlt, c2⟩)
        go_wp2_with fail
        go_ret2
        exact rpost_err HE.out (by decide) (Below.refl _ _) rfl
      · have HP2 : Hid (∀ t, t < k + 1 → 0 ≤ f t) := fun t ht => by
          by_cases e : t = k
          · subst e; omega
          · exact HP.out t (by omega)
        by_cases hb : someB f k = true
        · have hb2 : someB f (k + 1) = true := by simp [someB, hb]
          go_wp2_with fail
          go_round
          case rel => exact ⟨k + 1, by omega, by go_num, by rw [hb2], HP2.out⟩
          case measure => simp [intOf]; omega
        · have hb1 : someB f k = false := by simpa using hb
          have hb2 : someB f (k + 1) = decide (0 < f k) := by simp [someB, hb1]
          clear hb
          go_wp2_with fail
          go_round
          case rel => exact ⟨k + 1, by omega, by go_num, by rw [hb2], HP2.out⟩
          case measure => simp [intOf]; omega
    · have hke : k = n := by omega
      subst hke
      by_cases hb : someB f k = true
      · have HE3 : Hid (9223372036854775807 < sumN f k ∨ total = -9223372036854775808 → outE total f k = 3) := fun q => by rw [outE_rest hn HP.out hb, if_pos (by omega)]
        have HE0 : Hid (sumN f k ≤ 9223372036854775807 ∧ ¬ total = -9223372036854775808 → outE total f k = 0) := fun q => by rw [outE_rest hn HP.out hb, if_neg (by omega)]
        have HEn : Hid (sumN f k ≤ 9223372036854775807 → total < 0 → ¬ total = -9223372036854775808 → outE (-total) f k = 0) := fun q q2 q3 => by rw [outE_rest hn HP.out hb, if_neg (by omega)]
        go_wp2_with fail
        refine (total_arg f a k cap w HF.out (by omega) HA.out).mono ?_
        rintro e w1 ⟨s1, x1, n1, p1, rfl, hE1, hb1⟩
        have HB1 := Lib.hid hb1
        have E1 := Lib.hid hE1
        clear hb1 hE1
        go_wp2_with fail
        refine (fit_any s1 (sumN f k) x1 n1 p1 w1 E1.out (sumN_small HF.out (by omega))).mono ?_
        rintro e w2 ⟨rfl, hb2⟩
        have HB2 := Lib.hid (up2 HB1.out hb2)
        have HS0 := Lib.hid (sumN_pos HP.out)
        clear hb2 E1 HB1
        by_cases hS : sumN f k ≤ 9223372036854775807
        · rw [(tell_in (v := sumN f k) (by have := HS0.out; omega) hS).1, (tell_in (v := sumN f k) (by have := HS0.out; omega) hS).2]
          by_cases hm : total = -9223372036854775808
          · have HE : Hid (outE total f k = 3) := HE3.out (.inr hm)
            have hm1 : (total == -9223372036854775808) = true := by simp [hm]
            clear hm hS
            go_wp2_with fail
            go_ret2
            exact rpost_err HE.out (by decide) HB2.out rfl
          · have HE : Hid (outE total f k = 0) := HE0.out ⟨hS, hm⟩
            have hm1 : (total == -9223372036854775808) = false := by simp [hm]
            have ht : total < 0 := by rcases HNo.out with q | q; exact absurd HE.out q; exact q
            have hng : IntKind.i64.wrap (-total) = -total := by rw [IntKind.wrap_i64]; omega
            have HE2 : Hid (outE (-total) f k = 0) := HEn.out hS ht hm
            have HA2 : Hid (Arg w2 a k f) := fun q => by obtain ⟨b, off, e, r⟩ := HA.out q; exact ⟨b, off, e, r.below HB2.out⟩
            have HWt := Lib.hid (outE_ok HE2.out).2.1
            have hn0 : 0 ≤ -total := by omega
            have hn1 : -total ≤ 9223372036854775807 := by omega
            have HN01 := Lib.hid (And.intro hn0 hn1)
            clear hm hS hn0 hn1
            go_wp2_with fail
            refine (rout_main (-total) f a k cap w2 HF.out HN01.out.1 HN01.out.2 HE2.out HA2.out).mono ?_
            rintro e w3 ⟨hb3, q⟩
            have HB3 := Lib.hid (up2 HB2.out hb3)
            have s2 := HB2.out.size
            clear hb3
            rcases q with ⟨q, _⟩ | ⟨_, p, c, rfl, hp, hint⟩
            · exact absurd rfl q
            · have HP0 : Hid (w.heap.size ≤ p) := by show _ ≤ p; omega
              have HV : Hid (∀ t, t < k → 0 ≤ shareV (-total) f (sumN f k) k t ∧ shareV (-total) f (sumN f k) k t ≤ -total) := fun t ht => HWt.out.share0 (by omega) ht
              obtain ⟨v, hv⟩ : ∃ v, v = shareV (-total) f (sumN f k) k := ⟨_, rfl⟩
              rw [← hv] at hint HV
              have HVE := Lib.hid hv
              have HI := Lib.hid hint
              clear hint hp hv HWt HE2 HA2 HB2 HA HS0 s2
              go_wp2_with fail
              go_loopw [12] (fun vi wr => ∃ j : Nat, j ≤ k ∧ vi = .int .i64 j ∧ Below w.heap.size w wr ∧ Ints wr p k (fun t => if t < j then -v t else v t)) (fun vi _ => k - (intOf vi).toNat)
              case atStart => exact ⟨0, Nat.zero_le _, rfl, HB3.out, by simpa using HI.out⟩
              case round =>
                clear HB3 HI
                obtain ⟨j, hj, rfl, hB, hI⟩ := hrel
                have HB := Lib.hid hB
                have HI := Lib.hid hI
                clear hB hI
                by_cases hjk : j < k
                · have c1 := (HI.out j hjk).1
                  have c2 := (HI.out j hjk).2
                  simp only [if_neg (show ¬ j < j by omega)] at c1
                  have i1 : IntKind.i64.wrap (-v j) = -v j := by have := HV.out j hjk; rw [IntKind.wrap_i64]; omega
                  have hjz : (j : Int) < (k : Int) := by omega
                  go_wp2_with fail
                  go_roundw
                  case rel =>
                    refine ⟨j + 1, by omega, by go_num, HB.out.setCell HP0.out _, ints_same (ints_set HI.out hjk (-v j)) fun t ht => ?_⟩
                    by_cases e : t = j
                    · rw [if_pos (by omega), if_pos e, e]
                    · rw [if_neg e]
                      by_cases q : t < j
                      · rw [if_pos (by omega), if_pos q]
                      · rw [if_neg (by omega), if_neg q]
                  case measure => simp [intOf]; omega
                · have hje : j = k := by omega
                  subst hje
                  go_wp2_with fail
                  go_ret2
                  unfold RPost
                  rw [HE.out]
                  refine ⟨HB.out, .inr ⟨rfl, p, c, rfl, HP0.out, ints_same HI.out fun t htn => ?_⟩⟩
                  unfold outV; rw [if_neg (show ¬ 0 ≤ total by omega), if_pos htn, HVE.out]
        · have HE : Hid (outE total f k = 3) := HE3.out (.inl (by omega))
          have e1 : tellV (sumN f k) = 0 := by unfold tellV; rw [if_neg (by omega)]
          have e2 : tellE (sumN f k) = 3 := by unfold tellE; rw [if_neg (by omega)]
          rw [e1, e2]
          clear e1 e2 hS
          go_wp2_with fail
          go_ret2
          exact rpost_err HE.out (by decide) HB2.out rfl
      · have hb1 : someB f k = false := by simpa using hb
        have HE : Hid (outE total f k = 1) := outE_arg hn (.inr hb1)
        clear hb
        go_wp2_with fail
        go_ret2
        exact rpost_err HE.out (by decide) (Below.refl _ _) rfl

theorem rout_any (total : Int) (f : Nat → Int) (a : Option Addr) (n cap : Nat) (w : World) (hf : Amounts f) (t1 : -9223372036854775808 ≤ total) (t2 : total ≤ 9223372036854775807) (hA : Arg w a n f) :
    Calls Tryz.prog 82 #[.int .i64 total, .slice a n cap] w (RListed w (outE total f n) n (outV total f n)) := by
  by_cases h1 : 64 < n
  · have e : outE total f n = 4 := by unfold outE; rw [if_pos h1]
    refine (rout_full total a n cap w h1).mono ?_
    rintro e' w' ⟨rfl, rfl⟩
    rw [e]; exact ⟨Below.refl _ _, .inl ⟨by decide, rfl⟩⟩
  · by_cases h2 : outE total f n ≠ 0 ∨ total < 0
    · exact rout_else total f a n cap w hf t1 t2 (by omega) hA h2
    · have e : outE total f n = 0 := by apply Classical.byContradiction; intro q; exact h2 (.inl q)
      have t0 : 0 ≤ total := by omega
      refine (rout_main total f a n cap w hf t0 t2 e hA).mono ?_
      intro e' w' q
      rw [e]
      obtain ⟨hb, q | ⟨_, p, c, he, hp, hi⟩⟩ := q
      · exact absurd rfl q.1
      · exact ⟨hb, .inr ⟨rfl, p, c, he, hp, ints_same hi fun t _ => by unfold outV; rw [if_pos t0]⟩⟩
end Go.Proofs.YtklaonoekmhakaaGreat

namespace Go.Proofs.YtklaonoekmhakaaGreat
open Go.RowKit

theorem mul_small {a b : Int} (ha : Am a) (hb : Am b) : Small (a * b) := by
  unfold Am at ha hb
  have h1 : a.natAbs ≤ 9223372036854775808 := by omega
  have h2 : b.natAbs ≤ 9223372036854775808 := by omega
  have h3 : (a * b).natAbs ≤ 9223372036854775808 * 9223372036854775808 := by
    rw [Int.natAbs_mul]; exact Nat.mul_le_mul h1 h2
  have h3' : ((a * b).natAbs : Int) ≤ 85070591730234615865843651857942052864 := by omega
  have h5 : (1000 : Int) ^ 20 * 1 ≤ 1000 ^ (20 + 180) := by
    rw [Int.pow_add]; exact Int.mul_le_mul_of_nonneg_left (by have := pow_pos' 180; omega) (by decide)
  have h6 : (1000 : Int) ^ 20 = 1000000000000000000000000000000000000000000000000000000000000 := by decide
  have h7 : (1000 : Int) ^ (20 + 180) = 1000 ^ 200 := rfl
  rw [h6, h7] at h5
  unfold Small
  generalize (1000 : Int) ^ 200 = P at *
  omega
/-- digits lie in blocks of integers: a store into a block of another type leaves them -/
theorem Dg.off {W : World} {a : Option Addr} {cap : Nat} {l : List Int} (h : Dg W a cap l) {N T : Nat} {cs : Array Value} (hN : Has W N T cs) (hT : T ≠ 3) (k : Nat) (u : Value) : Dg (W.setCell ⟨N, k, none⟩ u) a cap l := by
  rcases h with h | ⟨g, h1, h2, ⟨cur, fr, h4⟩, h3⟩
  · exact .inl h
  · have hne : g ≠ N := by
      intro e; subst e
      unfold Has at hN
      rw [hN] at h4
      injection h4 with h4
      injection h4 with _ e
      exact hT e
    refine .inr ⟨g, h1, h2, ⟨cur, fr, ?_⟩, fun i hi => cset (h3 i hi) (.inl hne)⟩
    rw [Below.heap_setCell W ⟨N, k, none⟩ u g hne]; exact h4
theorem Ex.off {W : World} {s : Int} {a : Option Addr} {len cap : Nat} {n : Int} (h : Ex W s a len cap n) {N T : Nat} {cs : Array Value} (hN : Has W N T cs) (hT : T ≠ 3) (k : Nat) (u : Value) : Ex (W.setCell ⟨N, k, none⟩ u) s a len cap n := by
  obtain ⟨h1, l, h2, h3, h4⟩ := h
  exact ⟨h1, l, h2, h3.off hN hT k u, h4⟩
/-- a sum in a box -/
structure SmX (W : World) (b : Nat) (v s : Int) (a : Option Addr) (len cap : Nat) : Prop where
  has : Has W b 135 #[.int .i64 s, .slice a len cap]
  ex : Ex W s a len cap v
section
variable {W W' : World} {b : Nat} {v s : Int} {a : Option Addr} {len cap : Nat}
theorem SmX.up (h : SmX W b v s a len cap) (q : Below W.heap.size W W') : SmX W' b v s a len cap := ⟨h.has.up q, h.ex.below q⟩
theorem SmX.drew (h : SmX W b v s a len cap) : SmX W.drew b v s a len cap := h.up (Below.refl _ _).drew
theorem SmX.start (w : World) : SmX (w.alloc (.cells #[.int .i64 0, .slice none 0 0] 135)) w.heap.size 0 0 none 0 0 := ⟨Has.fresh _ _ _, ex_zero rfl 0⟩
theorem SmX.row (h : SmX W b v s a len cap) : Row2 W b (.int .i64 s) (.slice a len cap) := ⟨h.has.cell 0, h.has.cell 1, h.has.free 0, h.has.free 1⟩
theorem SmX.put (h : SmX W b v s a len cap) {t m : Int} {a2 : Option Addr} {len2 cap2 : Nat} (hE : Ex W t a2 len2 cap2 m) : SmX ((W.setCell ⟨b, 0, none⟩ (.int .i64 t)).setCell ⟨b, 1, none⟩ (.slice a2 len2 cap2)) b m t a2 len2 cap2 := by
  have h1 := h.has.put 0 (.int .i64 t)
  exact ⟨h1.put 1 _, (hE.off h.has (by decide) 0 _).off h1 (by decide) 1 _⟩
/-- a store into another box of another type, or of exact numbers -/
theorem SmX.off (h : SmX W b v s a len cap) {N T : Nat} {cs : Array Value} (hN : Has W N T cs) (hT : T ≠ 3) (hne : b ≠ N) (k : Nat) (u : Value) : SmX (W.setCell ⟨N, k, none⟩ u) b v s a len cap :=
  ⟨h.has.off (p := ⟨N, k, none⟩) hne u, h.ex.off hN hT k u⟩
end
theorem small126 {x : Int} (h : -85070591730234615865843651857942052864 ≤ x ∧ x ≤ 85070591730234615865843651857942052864) : Small x := by
  have h3' : (x.natAbs : Int) ≤ 85070591730234615865843651857942052864 := by omega
  have h5 : (1000 : Int) ^ 20 * 1 ≤ 1000 ^ (20 + 180) := by
    rw [Int.pow_add]; exact Int.mul_le_mul_of_nonneg_left (by have := pow_pos' 180; omega) (by decide)
  have h6 : (1000 : Int) ^ 20 = 1000000000000000000000000000000000000000000000000000000000000 := by decide
  have h7 : (1000 : Int) ^ (20 + 180) = 1000 ^ 200 := rfl
  rw [h6, h7] at h5
  unfold Small
  generalize (1000 : Int) ^ 200 = P at *
  omega
theorem SmX.of {W : World} {s : Int} {a : Option Addr} {len cap : Nat} {n : Int} (h : Ex W s a len cap n) : SmX (W.alloc (.cells #[.int .i64 s, .slice a len cap] 135)) W.heap.size n s a len cap :=
  ⟨Has.fresh _ _ _, h.below (boxed _ _)⟩
theorem SmX.lt {W : World} {b : Nat} {v s : Int} {a : Option Addr} {len cap : Nat} (h : SmX W b v s a len cap) : b < W.heap.size := h.has.lt
end Go.Proofs.YtklaonoekmhakaaGreat

namespace Go.Proofs.YtklaonoekmhakaaGreat
open Go.RowKit

set_option maxRecDepth 100000 in
theorem sumN_bd {f : Nat → Int} (hf : Amounts f) (n : Nat) : -(9223372036854775808 * (n : Int)) ≤ sumN f n ∧ sumN f n ≤ 9223372036854775808 * (n : Int) := by
  induction n with
  | zero => simp [sumN]
  | succ n ih =>
    have := hf n
    simp only [sumN]
    rw [show ((n + 1 : Nat) : Int) = (n : Int) + 1 by omega, Int.mul_add]
    omega
set_option maxRecDepth 100000 in
theorem ints_drew {W : World} {b n : Nat} {f : Nat → Int} (h : Ints W b n f) : Ints W.drew b n f := h
set_option maxRecDepth 100000 in
theorem rlisted_err {w w' : World} {E err : Int} {n : Nat} {v : Nat → Int} {e : Ending} (h : E = err) (h0 : err ≠ 0) (hb : Below w.heap.size w w') (he : e = .returned (.tuple #[.slice none 0 0, .int .i64 err])) : RListed w E n v e w' := by
  rw [h]; exact ⟨hb, .inl ⟨h0, he⟩⟩

def RAllPost (w : World) (price : Int) (f : Nat → Int) (n : Nat) (e : Ending) (w' : World) : Prop := RListed w (allE price f n) n (outV price f n) e w'
set_option maxRecDepth 100000 in
set_option maxHeartbeats 1000000 in
theorem rall_any (price : Int) (f : Nat → Int) (a : Option Addr) (n cap : Nat) (w : World) (hf : Amounts f) (ht : Am price) (hA : Arg w a n f) :
    Calls Tryz.prog 41 #[.int .i64 price, .slice a n cap] w (RAllPost w price f n) := by
  by_cases q : price < 0
  · have hE : allE price f n = 1 := by unfold allE; rw [if_pos q]
    clear hA hf ht
    have HE := Lib.hid hE
    clear hE
    go_enter Tryz.func41, Tryz.ntmps41
    go_wp2_with fail
    go_ret2
    exact rlisted_err HE.out (by decide) (Below.refl _ _) rfl
  · have hE : allE price f n = outE price f n := by unfold allE; rw [if_neg q]
    have HO := Lib.hid (rout_any price f a n cap w hf ht.1 ht.2 hA)
    have HE := Lib.hid hE
    clear hA hf ht hE
    go_enter Tryz.func41, Tryz.ntmps41
    go_wp2_with fail
    refine HO.out.mono ?_
    rintro e w1 ⟨hb, h⟩
    have HB := Lib.hid hb
    clear hb
    rcases h with ⟨he, rfl⟩ | ⟨he, p, c, rfl, hp, hi⟩
    · have HX := Lib.hid he
      clear he
      obtain ⟨E, hEd⟩ : ∃ E, E = outE price f n := ⟨_, rfl⟩
      rw [← hEd] at HX HE ⊢
      clear hEd
      go_wp2_with fail
      go_ret2
      exact rlisted_err HE.out HX.out HB.out rfl
    · have HX := Lib.hid (And.intro hp hi)
      have HY := Lib.hid he
      clear hp hi he
      go_wp2_with fail
      go_ret2
      unfold RAllPost
      rw [HE.out]
      exact ⟨HB.out, .inr ⟨HY.out, p, c, rfl, HX.out.1, HX.out.2⟩⟩

end Go.Proofs.YtklaonoekmhakaaGreat
