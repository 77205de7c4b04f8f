/- The reference's wrong, price. -/
import Derived.Test.YthogokflobnfpaaCoE
import Derived.Test.YthogokflobnfpaaSm
namespace Go.Proofs.Ythogokflobnfpaa
open Go.RowKit

set_option maxRecDepth 100000 in
set_option maxHeartbeats 8000000 in
theorem qwrong_any (f b : Int) (a : Option Addr) (n cap : Nat) (l : List Mb) (w : World) (hn : l.length = n) (hl : MbA w a l) :
    Calls Try.prog 14 #[.int .i64 f, .slice a n cap, .int .i64 b] w fun e w' => e = .returned (.int .i64 (wrE f l b)) ∧ w = w' := by
  have hE : wrE f l b = if 32 < n then 4 else if f < 0 ∨ b < 0 ∨ 10000 < b then 1 else if l.all mbB = true then 0 else 1 := by rw [← hn]; rfl
  rw [hE]
  clear hE
  by_cases q1 : 32 < n
  · rw [if_pos q1]
    have q1' : ((32 : Int) < (n : Int)) := by omega
    clear hl hn q1
    go_enter Try.func14, Try.ntmps14
    go_wp2_with fail
    go_ret
    exact ⟨rfl, rfl⟩
  · rw [if_neg q1]
    have hlen : n ≤ 32 := by omega
    by_cases q2 : f < 0 ∨ b < 0 ∨ 10000 < b
    · rw [if_pos q2]
      have key : decide (f < 0) = true ∨ (decide (f < 0) = false ∧ decide (b < 0) = true) ∨ (decide (f < 0) = false ∧ decide (b < 0) = false ∧ decide (10000 < b) = true) := by
        simp only [decide_eq_true_eq, decide_eq_false_iff_not]; omega
      clear hl hn q1 q2
      rcases key with k1 | ⟨k1, k2⟩ | ⟨k1, k2, k3⟩
      all_goals
        go_enter Try.func14, Try.ntmps14
        go_wp2_with fail
        go_ret
        exact ⟨rfl, rfl⟩
    · rw [if_neg q2]
      have k1 : decide (f < 0) = false := decide_eq_false (by omega)
      have k2 : decide (b < 0) = false := decide_eq_false (by omega)
      have k3 : decide (10000 < b) = false := decide_eq_false (by omega)
      obtain ⟨E, hE⟩ : ∃ E : Int, E = if l.all mbB = true then 0 else 1 := ⟨_, rfl⟩
      rw [← hE]
      have HE := Lib.hid hE
      have HL := Lib.hid hl
      have HN := Lib.hid hn
      clear hl hn q1 q2 hE
      go_enter Try.func14, Try.ntmps14
      go_wp2_with fail
      go_loop [7] (fun i => ∃ k : Nat, k ≤ n ∧ i = .int .i64 (k : Int) ∧ Hid (∀ t x, t < k → l[t]? = some x → mbB x = true)) (fun i => n - (intOf i).toNat)
      case atStart => exact ⟨0, Nat.zero_le _, rfl, Lib.hid (fun t x ht _ => by omega)⟩
      case round =>
        obtain ⟨k, hk, rfl, HA⟩ := hrel
        have hk0 : (0 : Int) ≤ (k : Int) := by omega
        by_cases hlt : k < n
        · obtain ⟨x, hx⟩ : ∃ x, l[k]? = some x := ⟨l[k]'(by rw [HN.out]; exact hlt), List.getElem?_eq_getElem _⟩
          obtain ⟨bb, o, ha, c0, c1⟩ := mb_at HL.out hx
          subst ha
          have HX := Lib.hid hx
          have hk1 : (k : Int) < (n : Int) := by omega
          have e1 : IntKind.i64.wrap ((k : Int) + 1) = (k : Int) + 1 := IntWalk.i64_in _ (by omega)
          clear hx
          cases q : mbB x with
          | true =>
            have hm : 0 ≤ x.ch ∧ x.ch ≤ 10000 := by simpa [mbB] using q
            have t1 : decide (x.ch < 0) = false := decide_eq_false (by omega)
            have t2 : decide (10000 < x.ch) = false := decide_eq_false (by omega)
            have HQ := Lib.hid q
            clear q hm
            go_wp2_with fail
            go_round
            case rel =>
              refine ⟨k + 1, by omega, by go_num, Lib.hid (fun t y ht hy => ?_)⟩
              by_cases z : t = k
              · subst z; rw [HX.out] at hy; obtain rfl := Option.some.inj hy; exact HQ.out
              · exact HA.out t y (by omega) hy
            case measure => simp [intOf]; omega
          | false =>
            have hno : ¬ l.all mbB = true := fun z => by
              have := List.all_eq_true.1 z x (List.mem_of_getElem? HX.out)
              rw [q] at this; cases this
            have hE : E = 1 := by rw [HE.out, if_neg hno]
            have key : decide (x.ch < 0) = true ∨ (decide (x.ch < 0) = false ∧ decide (10000 < x.ch) = true) := by
              have hm : ¬ (0 ≤ x.ch ∧ x.ch ≤ 10000) := fun z => by
                have : mbB x = true := by simpa [mbB] using z
                rw [q] at this; cases this
              simp only [decide_eq_true_eq, decide_eq_false_iff_not]; omega
            subst hE
            clear q hno
            rcases key with t1 | ⟨t1, t2⟩
            all_goals
              go_wp2_with fail
              go_ret
              exact ⟨rfl, rfl⟩
        · have hyes : l.all mbB = true := List.all_eq_true.2 fun x hx => by
            obtain ⟨i, hi⟩ := List.getElem?_of_mem hx
            have := (List.getElem?_eq_some_iff.1 hi).1
            exact HA.out i x (by rw [HN.out] at this; omega) hi
          have hE : E = 0 := by rw [HE.out, if_pos hyes]
          have hk1 : ¬ (k : Int) < (n : Int) := by omega
          subst hE
          clear hyes
          go_wp2_with fail
          go_ret
          exact ⟨rfl, rfl⟩

set_option maxRecDepth 100000 in
set_option maxHeartbeats 4000000 in
theorem qpr_any (s S : Int) (a : Option Addr) (len cap : Nat) (w : World) (h : Ex w s a len cap S) (hS : Small S) : Calls Try.prog 17 #[.agg #[.int .i64 s, .slice a len cap]] w (CopR w (pricV S) (pricE S)) := by
  have HF := Lib.hid (fun (W : World) (q : Below w.heap.size w W) => fit_any s S a len cap W (h.below q) hS)
  obtain ⟨PE, hPE⟩ : ∃ PE, PE = pricE S := ⟨_, rfl⟩
  obtain ⟨PV, hPV⟩ : ∃ PV, PV = pricV S := ⟨_, rfl⟩
  have hpv : PV = if PE = 0 then S else 0 := by rw [hPE]; exact hPV
  unfold CopR
  rw [← hPE, ← hPV]
  clear h hS
  cases q1 : am64 S with
  | false =>
    obtain ⟨t1, t2⟩ := tell_no64 q1
    rw [t1, t2] at HF
    have hpe : PE = 3 := by rw [hPE]; unfold pricE; rw [q1]; rfl
    have hpv0 : PV = 0 := by rw [hpv, if_neg (by rw [hpe]; decide)]
    clear hPE hPV hpv
    subst hpe hpv0
    clear t1 t2 q1
    go_enter Try.func17, Try.ntmps17
    go_wp2_with fail
    refine (HF.out _ (boxed _ _)).mono ?_
    rintro e w1 ⟨rfl, hb⟩
    have HB := Lib.hid (up2 (boxed _ _) hb)
    clear hb
    go_wp2_with fail
    go_ret2
    exact ⟨rfl, HB.out⟩
  | true =>
    obtain ⟨t1, t2⟩ := tell_am64 q1
    rw [t1, t2] at HF
    by_cases q2 : S < 0
    · have hpe : PE = 1 := by rw [hPE]; unfold pricE; rw [if_pos q1, if_pos q2]
      have hpv0 : PV = 0 := by rw [hpv, if_neg (by rw [hpe]; decide)]
      have q3 : decide (S < 0) = true := decide_eq_true q2
      clear hPE hPV hpv
      subst hpe hpv0
      clear t1 t2 q1 q2
      go_enter Try.func17, Try.ntmps17
      go_wp2_with fail
      refine (HF.out _ (boxed _ _)).mono ?_
      rintro e w1 ⟨rfl, hb⟩
      have HB := Lib.hid (up2 (boxed _ _) hb)
      clear hb
      go_wp2_with fail
      go_ret2
      exact ⟨rfl, HB.out⟩
    · have hpe : PE = 0 := by rw [hPE]; unfold pricE; rw [if_pos q1, if_neg q2]
      have hpv0 : PV = S := by rw [hpv, if_pos hpe]
      have q3 : decide (S < 0) = false := decide_eq_false q2
      clear hPE hPV hpv
      subst hpe hpv0
      clear t1 t2 q1 q2
      go_enter Try.func17, Try.ntmps17
      go_wp2_with fail
      refine (HF.out _ (boxed _ _)).mono ?_
      rintro e w1 ⟨rfl, hb⟩
      have HB := Lib.hid (up2 (boxed _ _) hb)
      clear hb
      go_wp2_with fail
      go_ret2
      exact ⟨rfl, HB.out⟩
end Go.Proofs.Ythogokflobnfpaa
