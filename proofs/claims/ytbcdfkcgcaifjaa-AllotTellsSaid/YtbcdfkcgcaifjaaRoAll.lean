/- Contract: the reference's Out, of any weights and totals. -/
import Derived.Test.YtbcdfkcgcaifjaaRoOut
namespace Go.Proofs.Ytbcdfkcgcaifjaa
open Go.RowKit
variable {total : Int} {f : Nat → Int} {n : Nat}

theorem outE_arg (hn : n ≤ 64) (h : (∃ t, t < n ∧ f t < 0) ∨ someB f n = false) : outE total f n = 1 := by
  unfold outE
  rw [if_neg (by omega), if_pos]
  by_cases h0 : n = 0
  · exact .inl h0
  · right
    by_cases h1 : minN f n < 0
    · exact .inl h1
    · right
      rcases h with ⟨t, t1, t2⟩ | h
      · have := minN_le f t1; omega
      · obtain ⟨k, k1, k2⟩ := maxN_is f (n := n) (by omega)
        have := minN_le f k1
        have q : ¬ 0 < f k := fun q => by have := (someB_iff f n).2 ⟨k, k1, q⟩; rw [h] at this; cases this
        omega
theorem outE_rest (hn : n ≤ 64) (hp : ∀ t, t < n → 0 ≤ f t) (hs : someB f n = true) : outE total f n = if ¬ (sumN f n ≤ 9223372036854775807) ∨ total = -9223372036854775808 then 3 else 0 := by
  obtain ⟨t, t1, t2⟩ := (someB_iff f n).1 hs
  unfold outE
  rw [if_neg (by omega), if_neg]
  rintro (q | q | q)
  · omega
  · obtain ⟨k, k1, k2⟩ := minN_is f (n := n) (by omega); have := hp k k1; omega
  · have := maxN_ge f t1; omega

def RPost (w : World) (total : Int) (f : Nat → Int) (n : Nat) (e : Ending) (w' : World) : Prop := RListed w (outE total f n) n (outV total f n) e w'
theorem rpost_err {w w' : World} {err : Int} {e : Ending} (h : outE total f n = err) (h0 : err ≠ 0) (hb : Below w.heap.size w w') (he : e = .returned (.tuple #[.slice none 0 0, .int .i64 err])) : RPost w total f n e w' := by
  unfold RPost; rw [h]; exact ⟨hb, .inl ⟨h0, he⟩⟩

set_option maxRecDepth 1000000 in
theorem rout_full (total : Int) (a : Option Addr) (n cap : Nat) (w : World) (h : 64 < n) :
    Calls Try.prog 20 #[.int .i64 total, .slice a n cap] w fun e w' => e = .returned (.tuple #[.slice none 0 0, .int .i64 4]) ∧ w = w' := by
  have hz : (64 : Int) < (n : Int) := by omega
  go_enter Try.func20, Try.ntmps20
  go_wp2_with fail
  go_ret2
  exact ⟨rfl, rfl⟩

set_option maxRecDepth 1000000 in
set_option maxHeartbeats 40000000 in
theorem rout_else (total : Int) (f : Nat → Int) (a : Option Addr) (n cap : Nat) (w : World) (hf : Amounts f) (t1 : -9223372036854775808 ≤ total) (t2 : total ≤ 9223372036854775807) (hn : n ≤ 64) (hA : Arg w a n f) (hno : outE total f n ≠ 0 ∨ total < 0) :
    Calls Try.prog 20 #[.int .i64 total, .slice a n cap] w (RPost w total f n) := by
  have HA := Lib.hid hA
  have HF := Lib.hid hf
  have HNo := Lib.hid hno
  have hz : ¬ (64 : Int) < (n : Int) := by omega
  clear hA hf hno
  go_enter Try.func20, Try.ntmps20
  go_wp2_with fail
  go_loop [6, 7] (fun vs vi => ∃ k : Nat, k ≤ n ∧ vi = .int .i64 k ∧ vs = .bool (someB f k) ∧ Hid (∀ t, t < k → 0 ≤ f t)) (fun _ vi => n - (intOf vi).toNat)
  case atStart => exact ⟨0, Nat.zero_le _, rfl, rfl, (fun t ht => by omega)⟩
  case round =>
    obtain ⟨k, hk, rfl, rfl, HP⟩ := hrel
    by_cases hlt : k < n
    · obtain ⟨b, off, ha, hr⟩ := HA.out (by omega)
      subst ha
      have c1 := hr k hlt
      clear hr
      by_cases c2 : f k < 0
      · have HE : Hid (outE total f n = 1) := outE_arg hn (.inl ⟨k, hlt, c2⟩)
        go_wp2_with fail
        go_ret2
        exact rpost_err HE.out (by decide) (Below.refl _ _) rfl
      · have HP2 : Hid (∀ t, t < k + 1 → 0 ≤ f t) := fun t ht => by
          by_cases e : t = k
          · subst e; omega
          · exact HP.out t (by omega)
        by_cases hb : someB f k = true
        · have hb2 : someB f (k + 1) = true := by simp [someB, hb]
          go_wp2_with fail
          go_round
          case rel => exact ⟨k + 1, by omega, by go_num, by rw [hb2], HP2.out⟩
          case measure => simp [intOf]; omega
        · have hb1 : someB f k = false := by simpa using hb
          have hb2 : someB f (k + 1) = decide (0 < f k) := by simp [someB, hb1]
          clear hb
          go_wp2_with fail
          go_round
          case rel => exact ⟨k + 1, by omega, by go_num, by rw [hb2], HP2.out⟩
          case measure => simp [intOf]; omega
    · have hke : k = n := by omega
      subst hke
      by_cases hb : someB f k = true
      · have HE3 : Hid (9223372036854775807 < sumN f k ∨ total = -9223372036854775808 → outE total f k = 3) := fun q => by rw [outE_rest hn HP.out hb, if_pos (by omega)]
        have HE0 : Hid (sumN f k ≤ 9223372036854775807 ∧ ¬ total = -9223372036854775808 → outE total f k = 0) := fun q => by rw [outE_rest hn HP.out hb, if_neg (by omega)]
        have HEn : Hid (sumN f k ≤ 9223372036854775807 → total < 0 → ¬ total = -9223372036854775808 → outE (-total) f k = 0) := fun q q2 q3 => by rw [outE_rest hn HP.out hb, if_neg (by omega)]
        go_wp2_with fail
        refine (total_arg f a k cap w HF.out (by omega) HA.out).mono ?_
        rintro e w1 ⟨s1, x1, n1, p1, rfl, hE1, hb1⟩
        have HB1 := Lib.hid hb1
        have E1 := Lib.hid hE1
        clear hb1 hE1
        go_wp2_with fail
        refine (fit_any s1 (sumN f k) x1 n1 p1 w1 E1.out (sumN_small HF.out (by omega))).mono ?_
        rintro e w2 ⟨rfl, hb2⟩
        have HB2 := Lib.hid (up2 HB1.out hb2)
        have HS0 := Lib.hid (sumN_pos HP.out)
        clear hb2 E1 HB1
        by_cases hS : sumN f k ≤ 9223372036854775807
        · rw [(tell_in (v := sumN f k) (by have := HS0.out; omega) hS).1, (tell_in (v := sumN f k) (by have := HS0.out; omega) hS).2]
          by_cases hm : total = -9223372036854775808
          · have HE : Hid (outE total f k = 3) := HE3.out (.inr hm)
            have hm1 : (total == -9223372036854775808) = true := by simp [hm]
            clear hm hS
            go_wp2_with fail
            go_ret2
            exact rpost_err HE.out (by decide) HB2.out rfl
          · have HE : Hid (outE total f k = 0) := HE0.out ⟨hS, hm⟩
            have hm1 : (total == -9223372036854775808) = false := by simp [hm]
            have ht : total < 0 := by rcases HNo.out with q | q; exact absurd HE.out q; exact q
            have hng : IntKind.i64.wrap (-total) = -total := by rw [IntKind.wrap_i64]; omega
            have HE2 : Hid (outE (-total) f k = 0) := HEn.out hS ht hm
            have HA2 : Hid (Arg w2 a k f) := fun q => by obtain ⟨b, off, e, r⟩ := HA.out q; exact ⟨b, off, e, r.below HB2.out⟩
            have HWt := Lib.hid (outE_ok HE2.out).2.1
            have hn0 : 0 ≤ -total := by omega
            have hn1 : -total ≤ 9223372036854775807 := by omega
            have HN01 := Lib.hid (And.intro hn0 hn1)
            clear hm hS hn0 hn1
            go_wp2_with fail
            refine (rout_main (-total) f a k cap w2 HF.out HN01.out.1 HN01.out.2 HE2.out HA2.out).mono ?_
            rintro e w3 ⟨hb3, q⟩
            have HB3 := Lib.hid (up2 HB2.out hb3)
            have s2 := HB2.out.size
            clear hb3
            rcases q with ⟨q, _⟩ | ⟨_, p, c, rfl, hp, hint⟩
            · exact absurd rfl q
            · have HP0 : Hid (w.heap.size ≤ p) := by show _ ≤ p; omega
              have HV : Hid (∀ t, t < k → 0 ≤ shareV (-total) f (sumN f k) k t ∧ shareV (-total) f (sumN f k) k t ≤ -total) := fun t ht => HWt.out.share0 (by omega) ht
              obtain ⟨v, hv⟩ : ∃ v, v = shareV (-total) f (sumN f k) k := ⟨_, rfl⟩
              rw [← hv] at hint HV
              have HVE := Lib.hid hv
              have HI := Lib.hid hint
              clear hint hp hv HWt HE2 HA2 HB2 HA HS0 s2
              go_wp2_with fail
              go_loopw [12] (fun vi wr => ∃ j : Nat, j ≤ k ∧ vi = .int .i64 j ∧ Below w.heap.size w wr ∧ Ints wr p k (fun t => if t < j then -v t else v t)) (fun vi _ => k - (intOf vi).toNat)
              case atStart => exact ⟨0, Nat.zero_le _, rfl, HB3.out, by simpa using HI.out⟩
              case round =>
                clear HB3 HI
                obtain ⟨j, hj, rfl, hB, hI⟩ := hrel
                have HB := Lib.hid hB
                have HI := Lib.hid hI
                clear hB hI
                by_cases hjk : j < k
                · have c1 := (HI.out j hjk).1
                  have c2 := (HI.out j hjk).2
                  simp only [if_neg (show ¬ j < j by omega)] at c1
                  have i1 : IntKind.i64.wrap (-v j) = -v j := by have := HV.out j hjk; rw [IntKind.wrap_i64]; omega
                  have hjz : (j : Int) < (k : Int) := by omega
                  go_wp2_with fail
                  go_roundw
                  case rel =>
                    refine ⟨j + 1, by omega, by go_num, HB.out.setCell HP0.out _, ints_same (ints_set HI.out hjk (-v j)) fun t ht => ?_⟩
                    by_cases e : t = j
                    · rw [if_pos (by omega), if_pos e, e]
                    · rw [if_neg e]
                      by_cases q : t < j
                      · rw [if_pos (by omega), if_pos q]
                      · rw [if_neg (by omega), if_neg q]
                  case measure => simp [intOf]; omega
                · have hje : j = k := by omega
                  subst hje
                  go_wp2_with fail
                  go_ret2
                  unfold RPost
                  rw [HE.out]
                  refine ⟨HB.out, .inr ⟨rfl, p, c, rfl, HP0.out, ints_same HI.out fun t htn => ?_⟩⟩
                  unfold outV; rw [if_neg (show ¬ 0 ≤ total by omega), if_pos htn, HVE.out]
        · have HE : Hid (outE total f k = 3) := HE3.out (.inl (by omega))
          have e1 : tellV (sumN f k) = 0 := by unfold tellV; rw [if_neg (by omega)]
          have e2 : tellE (sumN f k) = 3 := by unfold tellE; rw [if_neg (by omega)]
          rw [e1, e2]
          clear e1 e2 hS
          go_wp2_with fail
          go_ret2
          exact rpost_err HE.out (by decide) HB2.out rfl
      · have hb1 : someB f k = false := by simpa using hb
        have HE : Hid (outE total f k = 1) := outE_arg hn (.inr hb1)
        clear hb
        go_wp2_with fail
        go_ret2
        exact rpost_err HE.out (by decide) (Below.refl _ _) rfl

theorem rout_any (total : Int) (f : Nat → Int) (a : Option Addr) (n cap : Nat) (w : World) (hf : Amounts f) (t1 : -9223372036854775808 ≤ total) (t2 : total ≤ 9223372036854775807) (hA : Arg w a n f) :
    Calls Try.prog 20 #[.int .i64 total, .slice a n cap] w (RListed w (outE total f n) n (outV total f n)) := by
  by_cases h1 : 64 < n
  · have e : outE total f n = 4 := by unfold outE; rw [if_pos h1]
    refine (rout_full total a n cap w h1).mono ?_
    rintro e' w' ⟨rfl, rfl⟩
    rw [e]; exact ⟨Below.refl _ _, .inl ⟨by decide, rfl⟩⟩
  · by_cases h2 : outE total f n ≠ 0 ∨ total < 0
    · exact rout_else total f a n cap w hf t1 t2 (by omega) hA h2
    · have e : outE total f n = 0 := by apply Classical.byContradiction; intro q; exact h2 (.inl q)
      have t0 : 0 ≤ total := by omega
      refine (rout_main total f a n cap w hf t0 t2 e hA).mono ?_
      intro e' w' q
      rw [e]
      obtain ⟨hb, q | ⟨_, p, c, he, hp, hi⟩⟩ := q
      · exact absurd rfl q.1
      · exact ⟨hb, .inr ⟨rfl, p, c, he, hp, ints_same hi fun t _ => by unfold outV; rw [if_pos t0]⟩⟩
end Go.Proofs.Ytbcdfkcgcaifjaa
