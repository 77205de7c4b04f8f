/- reach, balances. -/
import Derived.Test.YtginbgclifdfiaaAcM
namespace Go.Proofs.Ytginbgclifdfiaa
open Go.RowKit

/-- the lowest and the highest of a row of numbers -/
structure LoHi (B : Int → Int) (k j : Nat) (lo hi : Int) : Prop where
  bd : ∀ q : Nat, k ≤ q → q ≤ j → lo ≤ B q ∧ B q ≤ hi
  lo : ∃ q : Nat, k ≤ q ∧ q ≤ j ∧ B q = lo
  hi : ∃ q : Nat, k ≤ q ∧ q ≤ j ∧ B q = hi
theorem LoHi.one (B : Int → Int) (k : Nat) : LoHi B k k (B k) (B k) :=
  ⟨fun q h1 h2 => by obtain rfl : q = k := by omega
                     exact ⟨Int.le_refl _, Int.le_refl _⟩, ⟨k, by omega, by omega, rfl⟩, ⟨k, by omega, by omega, rfl⟩⟩
theorem LoHi.step {B : Int → Int} {k j : Nat} {lo hi : Int} (h : LoHi B k j lo hi) (hkj : k ≤ j) : LoHi B k (j + 1) (min lo (B ((j + 1 : Nat) : Int))) (max hi (B ((j + 1 : Nat) : Int))) := by
  refine ⟨fun q h1 h2 => ?_, ?_, ?_⟩
  · by_cases e : q = j + 1
    · subst e; omega
    · have := h.bd q h1 (by omega); omega
  · by_cases e : lo ≤ B ((j + 1 : Nat) : Int)
    · obtain ⟨q, h1, h2, h3⟩ := h.lo
      exact ⟨q, h1, by omega, by rw [h3]; omega⟩
    · exact ⟨j + 1, by omega, by omega, by omega⟩
  · by_cases e : B ((j + 1 : Nat) : Int) ≤ hi
    · obtain ⟨q, h1, h2, h3⟩ := h.hi
      exact ⟨q, h1, by omega, by rw [h3]; omega⟩
    · exact ⟨j + 1, by omega, by omega, by omega⟩

section
variable {w w' : World} {p m : Nat} {S : Ld} {O : Nat → Prop}
abbrev Bl (S : Ld) (a c : Int) (q : Int) : Int := rng a c 0 q S.L

/-- the three cells that reach reads first -/
def Rc3 (p X : Nat) (a c : Int) (m : Nat) (w : World) : Prop := w.cell? ⟨p, 3, none⟩ = some (.map (some m)) ∧ w.cell? ⟨X, 0, none⟩ = some (.int .i64 a) ∧ w.cell? ⟨X, 1, none⟩ = some (.int .i64 c)
set_option maxRecDepth 100000 in
set_option maxHeartbeats 4000000 in
theorem reach_any (a c : Int) (k : Nat) (h : Lg w p S O) (ha : Am a) (hc : Am c) (hk : k < S.n) :
    Calls Try.prog 58 #[.pointer (some ⟨p, 0, none⟩), plV a c, .int .i64 (k : Int)] w fun e w' => (∃ lo hi, e = .returned (.tuple #[.int .i64 lo, .int .i64 hi]) ∧ LoHi (Bl S a c) k (S.n - 1) lo hi) ∧ Below w.heap.size w w' := by
  have hF := h.fine
  obtain ⟨W1, hW1⟩ : ∃ W1, W1 = w.alloc (.cells #[.int .i64 a, .int .i64 c] 73) := ⟨_, rfl⟩
  have hb1 : Below w.heap.size w W1 := by rw [hW1]; exact boxed _ _
  have hX : Has W1 w.heap.size 73 #[.int .i64 a, .int .i64 c] := by rw [hW1]; exact Has.fresh _ _ _
  have hL1 := (h.up hb1).drew
  have HL1 := Lib.hid hL1
  obtain ⟨m, ve, vs, rows, hg, _⟩ := h.up hb1
  obtain ⟨v, hl, hv⟩ := tbl_look hg.tbl ha hc
  have l1 := hl W1.drew rfl
  have c3 := hg.lc.2.2.2
  have x0 : W1.cell? ⟨w.heap.size, 0, none⟩ = some (.int .i64 a) := hX.cell 0
  have x1 : W1.cell? ⟨w.heap.size, 1, none⟩ = some (.int .i64 c) := hX.cell 1
  have HR : Hid (Rc3 p w.heap.size a c m W1.drew) := ⟨c3, x0, x1⟩
  have HX := Lib.hid hX
  have HB1 := Lib.hid hb1
  have HW1 := Lib.hid hW1
  unfold plV at l1 ⊢
  clear hb1 hX hL1 hW1 h
  rcases hv with ⟨rfl, hz⟩ | ⟨g, rfl, _, hr⟩
  · have hB : ∀ q : Nat, q < S.n → Bl S a c q = 0 := fun q hq => by
      have := rng_zero hz (q + 1) (by omega)
      rwa [show (((q + 1 : Nat) : Int) - 1) = (q : Int) by omega] at this
    have hres : LoHi (Bl S a c) k (S.n - 1) 0 0 := ⟨fun q h1 h2 => by rw [hB q (by omega)]; omega, ⟨k, by omega, by omega, hB k hk⟩, ⟨k, by omega, by omega, hB k hk⟩⟩
    have HRes := Lib.hid hres
    clear hg hl hz hB hres hF
    have en := eq_nil
    go_enter Try.func58, Try.ntmps58
    go_wp2_with fail
    rw [← HW1.out]
    go_region_held3 (fun w' => w'.cell? ⟨p, 3, none⟩ = some (.map (some m)) ∧ w'.cell? ⟨w.heap.size, 0, none⟩ = some (.int .i64 a) ∧ w'.cell? ⟨w.heap.size, 1, none⟩ = some (.int .i64 c))
      (first | (go_keep; done) | (change Rc3 p w.heap.size a c m _; with_reducible exact HR.out))
      (first | fail)
    all_goals
      clear c3 x0 x1 l1
      go_wp2_with fail
      go_ret2
      exact ⟨⟨0, 0, rfl, HRes.out⟩, HB1.out.drew⟩
  · have hn := hF.n1
    have hb0 : balV S a c (k : Int) = Bl S a c k := by unfold balV; rw [if_neg (by omega)]
    have HBal := Lib.hid (balance_any a c (k : Int) HL1.out ha hc)
    rw [hb0] at HBal
    have HAm : Hid (∀ q : Nat, q < S.n → Am (Bl S a c q)) := fun q hq => hF.bal a c q (by omega) (by omega)
    have HMv : Hid (∀ q : Nat, q < S.n → Am (rng a c q q S.L)) := fun q hq => hF.mov a c q (by omega) (by omega)
    have hrow : ∀ q : Nat, q < S.n → W1.drew.cell? ⟨g, q, none⟩ = some (.int .i64 (rng a c q q S.L)) := fun q hq => by
      have := hr.cell q
      rw [rowI_get _ hq] at this
      exact this
    have HRow := Lib.hid hrow
    have e1 : IntKind.i64.wrap ((k : Int) + 1) = (k : Int) + 1 := IntWalk.i64_in _ (by omega)
    have i1 : (0 : Int) ≤ (k : Int) + 1 := by omega
    have i2 : (k : Int) + 1 ≤ (S.n : Int) := by omega
    have i3 : ((k : Int) + 1).toNat = k + 1 := by omega
    have en := eq_some
    clear hg hl hr hF hrow hb0
    by_cases hend : S.n = k + 1
    · have hend' : (S.n : Int) = (k : Int) + 1 := by omega
      go_enter Try.func58, Try.ntmps58
      go_wp2_with fail
      rw [← HW1.out]
      go_region_held3 (fun w' => w'.cell? ⟨p, 3, none⟩ = some (.map (some m)) ∧ w'.cell? ⟨w.heap.size, 0, none⟩ = some (.int .i64 a) ∧ w'.cell? ⟨w.heap.size, 1, none⟩ = some (.int .i64 c))
        (first | (go_keep; done) | (change Rc3 p w.heap.size a c m _; with_reducible exact HR.out))
        (first | fail)
      all_goals
        clear c3 l1
        go_wp2_with fail
        refine HBal.out.mono ?_
        rintro e w2 ⟨rfl, hb2⟩
        have HB2 := Lib.hid hb2
        clear hb2 x0 x1
        go_wp2_with fail
        go_loopw [9, 10, 11, 13, 36] (fun v9 v10 v11 _ i wr => i = .int .i64 0 ∧ v9 = .int .i64 (Bl S a c k) ∧ v10 = .int .i64 (Bl S a c k) ∧ v11 = .int .i64 (Bl S a c k) ∧ wr = w2) (fun _ _ _ _ _ _ => 0)
        case atStart => exact ⟨rfl, rfl, rfl, rfl, rfl⟩
        case round =>
          obtain ⟨rfl, rfl, rfl, rfl, rfl⟩ := hrel
          go_wp2_with fail
          go_ret2
          refine ⟨⟨_, _, rfl, ?_⟩, up2 HB1.out.drew HB2.out⟩
          rw [show S.n - 1 = k by omega]
          exact LoHi.one _ k
    · have hend' : ¬ ((S.n : Int) = (k : Int) + 1) := by omega
      go_enter Try.func58, Try.ntmps58
      go_wp2_with fail
      rw [← HW1.out]
      go_region_held3 (fun w' => w'.cell? ⟨p, 3, none⟩ = some (.map (some m)) ∧ w'.cell? ⟨w.heap.size, 0, none⟩ = some (.int .i64 a) ∧ w'.cell? ⟨w.heap.size, 1, none⟩ = some (.int .i64 c))
        (first | (go_keep; done) | (change Rc3 p w.heap.size a c m _; with_reducible exact HR.out))
        (first | fail)
      all_goals
        clear c3 l1
        go_wp2_with fail
        refine HBal.out.mono ?_
        rintro e w2 ⟨rfl, hb2⟩
        have HB2 := Lib.hid hb2
        clear hb2 x0 x1
        go_wp2_with fail
        go_loopw [9, 10, 11, 13, 36] (fun v9 v10 v11 _ i wr => ∃ (j : Nat) (lo hi : Int), j ≤ S.n - (k + 1) ∧ i = .int .i64 (j : Int) ∧ v9 = .int .i64 (Bl S a c ((k + j : Nat) : Int)) ∧ v10 = .int .i64 lo ∧ v11 = .int .i64 hi ∧ LoHi (Bl S a c) k (k + j) lo hi ∧ Below W1.drew.heap.size W1.drew wr) (fun _ _ _ _ i _ => S.n - (intOf i).toNat)
        case atStart => exact ⟨0, _, _, by omega, rfl, rfl, rfl, rfl, LoHi.one _ k, HB2.out⟩
        case round =>
          obtain ⟨j, lo, hi, hj, rfl, rfl, rfl, rfl, h1, h2⟩ := hrel
          have H1 := Lib.hid h1
          have H2 := Lib.hid h2
          clear h1 h2
          by_cases hlt : j < S.n - (k + 1)
          · have hcell := kcell H2.out (HRow.out (k + 1 + j) (by omega))
            have hstep : Bl S a c ((k + j : Nat) : Int) + rng a c ((k + 1 + j : Nat) : Int) ((k + 1 + j : Nat) : Int) S.L = Bl S a c ((k + (j + 1) : Nat) : Int) := by
              have := rng_step a c ((k + (j + 1) : Nat) : Int) S.L (by omega)
              rw [show ((k + (j + 1) : Nat) : Int) - 1 = ((k + j : Nat) : Int) by omega] at this
              rw [show k + 1 + j = k + (j + 1) by omega]
              exact this.symm
            have hm1 := HAm.out (k + j) (by omega)
            have hm2 := HMv.out (k + 1 + j) (by omega)
            have hm3 := HAm.out (k + (j + 1)) (by omega)
            have hadd := fun W => add_any (Bl S a c ((k + j : Nat) : Int)) (rng a c ((k + 1 + j : Nat) : Int) ((k + 1 + j : Nat) : Int) S.L) W hm1.1 hm1.2 hm2.1 hm2.2
            rw [hstep, (tell_am hm3).1, (tell_am hm3).2] at hadd
            have HAdd := Lib.hid hadd
            clear hadd hm1 hm2 hm3 hstep
            go_wp2_with fail
            refine (HAdd.out _).mono ?_
            rintro e w3 ⟨rfl, hb3⟩
            have HB3 := Lib.hid hb3
            clear hb3 hcell
            go_wp2_with fail
            go_roundw
            case rel =>
              have e9 : ((k : Int) + ((j : Int) + 1)) = ((k + (j + 1) : Nat) : Int) := by omega
              refine ⟨j + 1, _, _, by omega, by go_num, by rw [e9], rfl, rfl, ?_, up2 H2.out HB3.out⟩
              have := H1.out.step (by omega)
              rw [e9]
              exact this
            case measure => simp [intOf]; omega
          · obtain rfl : j = S.n - (k + 1) := by omega
            go_wp2_with fail
            go_ret2
            refine ⟨⟨lo, hi, rfl, ?_⟩, up2 HB1.out.drew H2.out⟩
            have := H1.out
            rwa [show k + (S.n - (k + 1)) = S.n - 1 by omega] at this

/-- do the balances through a period, and through each behind it, stay amounts with so much more? -/
def resB (S : Ld) (a c : Int) (k : Nat) (x : Int) : Bool := (List.range S.n).all fun q => !decide ((k : Int) ≤ (q : Int)) || amB (Bl S a c q + x)
theorem res_is {S : Ld} {a c : Int} {k : Nat} {x lo hi : Int} (h : LoHi (Bl S a c) k (S.n - 1) lo hi) (hk : k < S.n) : (amB (lo + x) && amB (hi + x)) = resB S a c k x := by
  cases hr : resB S a c k x with
  | true =>
    have hall := List.all_eq_true.1 hr
    have one : ∀ q : Nat, k ≤ q → q < S.n → amB (Bl S a c q + x) = true := fun q h1 h2 => by
      have := hall q (List.mem_range.2 h2)
      simp only [Bool.or_eq_true, Bool.not_eq_true', decide_eq_false_iff_not] at this
      exact this.resolve_left (by omega)
    obtain ⟨q1, a1, b1, e1⟩ := h.lo
    obtain ⟨q2, a2, b2, e2⟩ := h.hi
    rw [← e1, ← e2, one q1 a1 (by omega), one q2 a2 (by omega)]; rfl
  | false =>
    cases hb : amB (lo + x) && amB (hi + x) with
    | false => rfl
    | true =>
      exfalso
      rw [Bool.and_eq_true] at hb
      have h1 := amB_iff.1 hb.1
      have h2 := amB_iff.1 hb.2
      have : resB S a c k x = true := List.all_eq_true.2 fun q hq => by
        by_cases hkq : k ≤ q
        · have hbd := h.bd q hkq (by have := List.mem_range.1 hq; omega)
          simp only [Bool.or_eq_true]
          refine .inr (amB_iff.2 ?_)
          unfold Am at h1 h2 ⊢
          omega
        · simp only [Bool.or_eq_true, Bool.not_eq_true', decide_eq_false_iff_not]
          exact .inl (by omega)
      rw [hr] at this
      cases this
theorem tellE_am (x : Int) : (tellE x == 0) = amB x := by
  unfold tellE amB
  by_cases h : -9223372036854775808 ≤ x ∧ x ≤ 9223372036854775807
  · rw [if_pos h]; simp [h]
  · rw [if_neg h]
    by_cases h1 : -9223372036854775808 ≤ x
    · by_cases h2 : x ≤ 9223372036854775807
      · exact absurd ⟨h1, h2⟩ h
      · simp [h2]
    · simp [h1]
set_option maxRecDepth 100000 in
set_option maxHeartbeats 4000000 in
theorem balances_any (a c : Int) (k : Nat) {B : Nat} {v : Value} {zs : List Int} (h : Lg w p S O) (ha : Am a) (hc : Am c) (hk : k < S.n) (hv : Am1 w B v zs) (hz : ∀ z ∈ zs, Am z) (hl : zs.length ≤ 100000) :
    Calls Try.prog 55 #[.pointer (some ⟨p, 0, none⟩), plV a c, .int .i64 (k : Int), v] w fun e w' => e = .returned (.bool (resB S a c k (sumL zs))) ∧ Below w.heap.size w w' := by
  have hF := h.fine
  have HAm : Hid (∀ q : Nat, q < S.n → Am (Bl S a c q)) := fun q hq => hF.bal a c q (by omega) (by omega)
  obtain ⟨W1, hW1⟩ : ∃ W1, W1 = w.alloc (.cells #[.int .i64 a, .int .i64 c] 73) := ⟨_, rfl⟩
  have hb1 : Below w.heap.size w W1 := by rw [hW1]; exact boxed _ _
  have hX : Has W1 w.heap.size 73 #[.int .i64 a, .int .i64 c] := by rw [hW1]; exact Has.fresh _ _ _
  have hre := reach_any a c k (h.up hb1) ha hc hk
  have x0 : W1.cell? ⟨w.heap.size, 0, none⟩ = some (.int .i64 a) := hX.cell 0
  have x1 : W1.cell? ⟨w.heap.size, 1, none⟩ = some (.int .i64 c) := hX.cell 1
  have hv1 := hv.up hb1
  unfold plV at hre ⊢
  have HRe := Lib.hid hre
  have HB1 := Lib.hid hb1
  have HW1 := Lib.hid hW1
  have HV1 := Lib.hid hv1
  have HZ := Lib.hid hz
  clear hre hb1 hX hW1 h hv1 hv hF hz
  go_enter Try.func55, Try.ntmps55
  go_wp2_with fail
  rw [← HW1.out]
  refine HRe.out.mono ?_
  rintro e w2 ⟨⟨lo, hi, rfl, hlh⟩, hb2⟩
  have HB2 := Lib.hid hb2
  have hlo : Am lo := by obtain ⟨q, _, h2, e⟩ := hlh.lo; rw [← e]; exact HAm.out q (by omega)
  have hhi : Am hi := by obtain ⟨q, _, h2, e⟩ := hlh.hi; rw [← e]; exact HAm.out q (by omega)
  have HLo := Lib.hid hlo
  have HHi := Lib.hid hhi
  have HLH := Lib.hid (res_is (x := sumL zs) hlh hk)
  have HV2 := Lib.hid (HV1.out.up hb2)
  clear hlo hhi hlh hb2 x0 x1
  go_wp2_with fail
  refine (with_any w2 lo HV2.out HLo.out HZ.out hl).mono ?_
  rintro e w3 ⟨rfl, hb3⟩
  have HB3 := Lib.hid hb3
  have HV3 := Lib.hid (HV2.out.up hb3)
  clear hb3
  go_wp2_with fail
  refine (with_any w3 hi HV3.out HHi.out HZ.out hl).mono ?_
  rintro e w4 ⟨rfl, hb4⟩
  have HB4 := Lib.hid hb4
  clear hb4
  have HQ := HLH.out
  rw [← tellE_am, ← tellE_am] at HQ
  have HQ' := Lib.hid HQ
  clear HQ
  cases q1 : (tellE (lo + sumL zs) == 0)
  · go_wp2_with fail
    go_ret
    exact ⟨by rw [← HQ'.out, q1]; rfl, up2 (up2 (up2 HB1.out HB2.out) HB3.out) HB4.out⟩
  · cases q2 : (tellE (hi + sumL zs) == 0)
    · go_wp2_with fail
      go_ret
      exact ⟨by rw [← HQ'.out, q1, q2]; rfl, up2 (up2 (up2 HB1.out HB2.out) HB3.out) HB4.out⟩
    · go_wp2_with fail
      go_ret
      exact ⟨by rw [← HQ'.out, q1, q2]; rfl, up2 (up2 (up2 HB1.out HB2.out) HB3.out) HB4.out⟩
end
end Go.Proofs.Ytginbgclifdfiaa
