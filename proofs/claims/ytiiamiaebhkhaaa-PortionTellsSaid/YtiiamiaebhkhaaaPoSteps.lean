/- Contracts: portion.checkMarks, portion.Steps, and the reference's Same. -/
import Derived.Test.YtiiamiaebhkhaaaPoOut
namespace Go.Proofs.Ytiiamiaebhkhaaa
open Go.RowKit

/-- marks that rise from 0 to a whole, up to a place -/
def RiseTo (f : Nat → Int) (whole : Int) (k : Nat) : Prop := ∀ t, t < k → (if t = 0 then 0 else f (t - 1)) ≤ f t ∧ f t ≤ whole
/-- the mark ahead; 0 of the first one -/
def aheadV (f : Nat → Int) (k : Nat) : Int := if k = 0 then 0 else f (k - 1)
theorem rise_step {f : Nat → Int} {whole : Int} {k : Nat} (h : RiseTo f whole k) (h1 : aheadV f k ≤ f k) (h2 : f k ≤ whole) : RiseTo f whole (k + 1) := by
  intro t ht
  by_cases e : t = k
  · subst e; exact ⟨h1, h2⟩
  · exact h t (by omega)
theorem RiseTo.pos {f : Nat → Int} {whole : Int} {n : Nat} (h : RiseTo f whole n) : ∀ t, t < n → 0 ≤ f t := by
  intro t
  induction t with
  | zero => intro ht; have := (h 0 ht).1; simpa using this
  | succ t ih => intro ht; have a := ih (by omega); have := (h (t + 1) ht).1; rw [if_neg (by omega)] at this; simp only [Nat.add_sub_cancel] at this; omega

theorem marks_full (a : Option Addr) (n cap : Nat) (whole : Int) (w : World) (h : 64 < n) :
    Calls Try.prog 26 #[.slice a n cap, .int .i64 whole] w fun e w' => e = .returned (.int .i64 4) ∧ w = w' := by
  have z : (64 : Int) < (n : Int) := by omega
  go_enter Try.func26, Try.ntmps26
  go_wp2_with fail
  go_ret
  exact ⟨rfl, rfl⟩
theorem marks_whole (a : Option Addr) (n cap : Nat) (whole : Int) (w : World) (h : n ≤ 64) (hw : whole < 1) :
    Calls Try.prog 26 #[.slice a n cap, .int .i64 whole] w fun e w' => e = .returned (.int .i64 1) ∧ w = w' := by
  have z : ¬ (64 : Int) < (n : Int) := by omega
  go_enter Try.func26, Try.ntmps26
  go_wp2_with fail
  go_ret
  exact ⟨rfl, rfl⟩
set_option maxHeartbeats 400000 in
theorem marks_some (f : Nat → Int) (a : Option Addr) (n cap : Nat) (whole : Int) (w : World) (hn : n ≤ 64) (hw : 1 ≤ whole) (h : Arg w a n f) :
    Calls Try.prog 26 #[.slice a n cap, .int .i64 whole] w fun e w' => ((e = .returned (.int .i64 0) ∧ RiseTo f whole n) ∨ (e = .returned (.int .i64 1) ∧ ¬ RiseTo f whole n)) ∧ w = w' := by
  have z : ¬ (64 : Int) < (n : Int) := by omega
  have z2 : decide (whole < 1) = false := by simp; omega
  have HA := Lib.hid h
  clear h
  go_enter Try.func26, Try.ntmps26
  go_wp2_with fail
  go_loop [5, 15] (fun va vi => ∃ k : Nat, k ≤ n ∧ vi = .int .i64 k ∧ va = .int .i64 (aheadV f k) ∧ Hid (RiseTo f whole k)) (fun _ vi => n - (intOf vi).toNat)
  case atStart => exact ⟨0, Nat.zero_le _, rfl, by simp [aheadV], (fun t ht => by omega)⟩
  case round =>
    obtain ⟨k, hk, rfl, rfl, HI⟩ := hrel
    by_cases hlt : k < n
    · obtain ⟨b, off, ha, hr⟩ := HA.out (by omega)
      subst ha
      have hc := hr k hlt
      clear hr
      by_cases e1 : f k < aheadV f k
      · have e1z : decide (f k < aheadV f k) = true := by simp [e1]
        go_wp2_with fail
        go_ret
        refine ⟨.inr ⟨rfl, fun q => ?_⟩, rfl⟩
        have := (q k hlt).1
        unfold aheadV at e1; omega
      · have e1z : decide (f k < aheadV f k) = false := by simp; omega
        have e1n : aheadV f k ≤ f k := by omega
        have HE1 := Lib.hid e1n
        clear e1n
        by_cases e2 : whole < f k
        · have e2z : decide (f k > whole) = true := by simp; omega
          go_wp2_with fail
          go_ret
          refine ⟨.inr ⟨rfl, fun q => ?_⟩, rfl⟩
          have := (q k hlt).2
          omega
        · have e2z : decide (f k > whole) = false := by simp; omega
          have HE2 : Hid (f k ≤ whole) := by show f k ≤ whole; omega
          go_wp2_with fail
          go_round
          case rel => exact ⟨k + 1, by omega, by go_num, by simp [aheadV], rise_step HI.out HE1.out HE2.out⟩
          case measure => simp [intOf]; omega
    · have hke : k = n := by omega
      subst hke
      go_wp2_with fail
      go_ret
      exact ⟨.inl ⟨rfl, HI.out⟩, rfl⟩
def stepP (total : Int) (f : Nat → Int) (whole : Int) (k : Nat) : Int := if k = 0 then 0 else total * f (k - 1) / whole
def stepV (total : Int) (f : Nat → Int) (whole : Int) (k : Nat) : Int := stepP total f whole (k + 1) - stepP total f whole k
theorem stepP_succ (total : Int) (f : Nat → Int) (whole : Int) (k : Nat) : stepP total f whole (k + 1) = total * f k / whole := by unfold stepP; rw [if_neg (by omega), Nat.add_sub_cancel]
theorem div_mono {a b w : Int} (hw : 1 ≤ w) (h : a ≤ b) : a / w ≤ b / w := Int.ediv_le_ediv (by omega) h
/-- a part of a mark up to the whole is from 0 to the total -/
theorem part_within {total m whole : Int} (hw : 1 ≤ whole) (h0 : 0 ≤ m) (h1 : m ≤ whole) : (0 ≤ total → 0 ≤ total * m / whole ∧ total * m / whole ≤ total) ∧ (total < 0 → total ≤ total * m / whole ∧ total * m / whole ≤ 0) := by
  have e : total * whole / whole = total := Int.mul_ediv_cancel _ (by omega)
  constructor
  · intro ht
    have a := div_mono hw (Int.mul_nonneg ht h0)
    have b := div_mono hw (Int.mul_le_mul_of_nonneg_left h1 ht)
    rw [e] at b; simp only [Int.zero_ediv] at a; exact ⟨a, b⟩
  · intro ht
    have q1 : total * whole ≤ total * m := by
      have := Int.mul_le_mul_of_nonneg_left h1 (show 0 ≤ -total by omega)
      rw [Int.neg_mul, Int.neg_mul] at this; omega
    have q2 : total * m ≤ 0 := by
      have := Int.mul_nonneg (show 0 ≤ -total by omega) h0
      rw [Int.neg_mul] at this; omega
    have a := div_mono hw q1
    have b := div_mono hw q2
    rw [e] at a; simp only [Int.zero_ediv] at b; exact ⟨a, b⟩
theorem part_rises {total m m' whole : Int} (hw : 1 ≤ whole) (h : m ≤ m') : (0 ≤ total → total * m / whole ≤ total * m' / whole) ∧ (total < 0 → total * m' / whole ≤ total * m / whole) := by
  constructor
  · intro ht; exact div_mono hw (Int.mul_le_mul_of_nonneg_left h ht)
  · intro ht
    apply div_mono hw
    have := Int.mul_le_mul_of_nonneg_left h (show 0 ≤ -total by omega)
    rw [Int.neg_mul, Int.neg_mul] at this; omega
theorem am_within {total x : Int} (h : (0 ≤ total → 0 ≤ x ∧ x ≤ total) ∧ (total < 0 → total ≤ x ∧ x ≤ 0)) (t1 : -9223372036854775808 ≤ total) (t2 : total ≤ 9223372036854775807) : Am x := by
  unfold Am
  by_cases q : 0 ≤ total
  · have := h.1 q; omega
  · have := h.2 (by omega); omega
variable {total whole : Int} {f : Nat → Int} {n : Nat}
theorem stepP_in (hw : 1 ≤ whole) (h : RiseTo f whole n) {k : Nat} (hk : k ≤ n) : (0 ≤ total → 0 ≤ stepP total f whole k ∧ stepP total f whole k ≤ total) ∧ (total < 0 → total ≤ stepP total f whole k ∧ stepP total f whole k ≤ 0) := by
  unfold stepP
  by_cases e : k = 0
  · rw [if_pos e]; omega
  · rw [if_neg e]; exact part_within hw (h.pos _ (by omega)) (h _ (by omega)).2
theorem stepV_in (hw : 1 ≤ whole) (h : RiseTo f whole n) {k : Nat} (hk : k < n) : (0 ≤ total → 0 ≤ stepV total f whole k ∧ stepV total f whole k ≤ total) ∧ (total < 0 → total ≤ stepV total f whole k ∧ stepV total f whole k ≤ 0) := by
  have a := stepP_in (total := total) hw h (show k ≤ n by omega)
  have b := stepP_in (total := total) hw h (show k + 1 ≤ n by omega)
  have c : (0 ≤ total → stepP total f whole k ≤ stepP total f whole (k + 1)) ∧ (total < 0 → stepP total f whole (k + 1) ≤ stepP total f whole k) := by
    by_cases e : k = 0
    · subst e
      have z : stepP total f whole 0 = 0 := by simp [stepP]
      rw [z]; exact ⟨fun q => (b.1 q).1, fun q => (b.2 q).2⟩
    · have q := part_rises (total := total) hw (m := f (k - 1)) (m' := f k) (by have := (h k hk).1; rwa [if_neg e] at this)
      rw [stepP_succ]; unfold stepP; rw [if_neg e]; exact q
  unfold stepV
  constructor
  · intro q; have := a.1 q; have := b.1 q; have := c.1 q; omega
  · intro q; have := a.2 q; have := b.2 q; have := c.2 q; omega
theorem stepV_sum (total : Int) (f : Nat → Int) (whole : Int) (k : Nat) : sumN (stepV total f whole) k = stepP total f whole k := by
  induction k with
  | zero => simp [sumN, stepP]
  | succ k ih => simp only [sumN, ih, stepV]; omega

/-- why there are no steps; 0: there are -/
noncomputable def stepE (f : Nat → Int) (whole : Int) (n : Nat) : Int := by classical exact if 64 < n then 4 else if whole < 1 ∨ ¬ RiseTo f whole n then 1 else 0

theorem steps_err (total : Int) (a : Option Addr) (n cap : Nat) (whole err : Int) (w : World) (he : err ≠ 0) (h : Calls Try.prog 26 #[.slice a n cap, .int .i64 whole] w fun e w' => e = .returned (.int .i64 err) ∧ w = w') :
    Calls Try.prog 10 #[.int .i64 total, .slice a n cap, .int .i64 whole] w fun e w' => e = .returned (.tuple #[.slice none 0 0, .int .i64 err]) ∧ w = w' := by
  have HK := Lib.hid h
  have hez : (err != 0) = true := by simp [he]
  clear h he
  go_enter Try.func10, Try.ntmps10
  go_wp2_with (first | (go_at_call 26; refine HK.out.mono ?_; rintro e w' ⟨rfl, rfl⟩))
  go_ret2
  exact ⟨rfl, rfl⟩

set_option maxHeartbeats 1000000 in
theorem steps_some (total : Int) (f : Nat → Int) (a : Option Addr) (n cap : Nat) (whole : Int) (w : World) (t1 : -9223372036854775808 ≤ total) (t2 : total ≤ 9223372036854775807) (hn : n ≤ 64) (hw : 1 ≤ whole) (hw2 : whole ≤ 9223372036854775807) (hA : Arg w a n f) (hr : RiseTo f whole n)
    (h : Calls Try.prog 26 #[.slice a n cap, .int .i64 whole] w fun e w' => e = .returned (.int .i64 0) ∧ w = w') :
    Calls Try.prog 10 #[.int .i64 total, .slice a n cap, .int .i64 whole] w (Listed w 0 n (stepV total f whole)) := by
  obtain ⟨i0, hi, hz0, hz1, hz2⟩ := info_parts Try.infoI64
  have HK := Lib.hid h
  have HA := Lib.hid hA
  have HR := Lib.hid hr
  clear h hA hr
  go_enter Try.func10, Try.ntmps10
  go_wp2_with (first | (go_at_call 26; refine HK.out.mono ?_; rintro e w' ⟨rfl, rfl⟩) | (at_make; refine wpList_make_full _ rfl _ _ 22 rfl w.heap.size 2 i0 (.int .i64 0) 1 Try.underlying22 hi hz0 hz1 .i64 .i64 _ _ n rfl rfl ?c1 ?c2 ?c3 ?c4 ?c5 ?_))
  case c1 => rfl
  case c2 => rfl
  case c3 => first | omega | (rw [hz2]; omega)
  case c4 => unfold maxLen; omega
  case c5 => exact Nat.le_refl _
  intro w1 hown hgrow
  have hb1 : Below w.heap.size w w1 := (Below.refl _ _).grown hgrow (Nat.le_refl _) (fun k hk => by simp at hk)
  have HI1 := Lib.hid (made_ints hown)
  have HB1 := Lib.hid hb1
  clear hown hgrow hb1
  obtain ⟨p, hp⟩ : ∃ p, p = w.heap.size := ⟨_, rfl⟩
  rw [← hp] at HI1
  rw [← hp]
  have HP : Hid (w.heap.size ≤ p) := by rw [hp]; exact Nat.le_refl _
  clear hp
  go_wp2_with fail
  go_loopw [10, 26] (fun va vi wr => ∃ k : Nat, k ≤ n ∧ vi = .int .i64 k ∧ va = .int .i64 (stepP total f whole k) ∧ Below w.heap.size w wr ∧ Ints wr p n (upTo (stepV total f whole) k)) (fun _ vi _ => n - (intOf vi).toNat)
  case atStart => exact ⟨0, Nat.zero_le _, rfl, by simp [stepP], HB1.out, ints_same HI1.out (fun t _ => by simp [upTo])⟩
  case round =>
    clear HB1 HI1
    obtain ⟨k, hk, rfl, rfl, hB, hI⟩ := hrel
    have HB := Lib.hid hB
    have HI := Lib.hid hI
    clear hB hI
    by_cases hlt : k < n
    · obtain ⟨b, off, ha, hr⟩ := HA.out (by omega)
      subst ha
      have c0 : wr.cell? ⟨b, off + k, none⟩ = some (.int .i64 (f k)) := kcell HB.out (hr k hlt)
      have HF : Hid (0 ≤ f k ∧ f k ≤ 9223372036854775807) := ⟨HR.out.pos k hlt, by have := (HR.out k hlt).2; omega⟩
      have HQ := Lib.hid (stepP_in (total := total) hw HR.out (k := k + 1) (by omega))
      have HQ0 := Lib.hid (stepP_in (total := total) hw HR.out (k := k) (by omega))
      have HV := Lib.hid (stepV_in (total := total) hw HR.out hlt)
      have HT : Hid (tellV (total * f k / whole) = stepP total f whole (k + 1) ∧ tellE (total * f k / whole) = 0) := by
        rw [← stepP_succ]
        by_cases q : 0 ≤ total
        · have := HQ.out.1 q; exact tell_in (by omega) (by omega)
        · have := HQ.out.2 (by omega); exact tell_in (by omega) (by omega)
      clear hr
      go_wp2_with fail
      refine (part_any total (f k) whole _ t1 t2 HF.out.1 HF.out.2 hw hw2).mono ?_
      rintro e w3 ⟨rfl, hb3⟩
      rw [HT.out.1, HT.out.2]
      have HB3 : Hid (Below w.heap.size w w3) := HB.out.trans (hb3.mono HB.out.size)
      have HI3 := Lib.hid (ints_up HI.out hb3)
      clear hb3 HB HI c0 HT
      obtain ⟨pv, hpv⟩ : ∃ pv, pv = stepP total f whole (k + 1) := ⟨_, rfl⟩
      obtain ⟨pa, hpa⟩ : ∃ pa, pa = stepP total f whole k := ⟨_, rfl⟩
      rw [← hpv, ← hpa]
      rw [← hpv] at HQ
      rw [← hpa] at HQ0
      have HVE : Hid (stepV total f whole k = pv - pa) := by show _ = _; rw [hpv, hpa]; rfl
      have HPV := Lib.hid hpv
      clear hpv hpa
      go_wp2_with fail
      refine (less_calls pv pa _ (am_within HQ.out t1 t2).1 (am_within HQ.out t1 t2).2 (am_within HQ0.out t1 t2).1 (am_within HQ0.out t1 t2).2).mono ?_
      rintro e w4 ⟨rfl, hb4⟩
      have HT : Hid (tellV (pv - pa) = pv - pa ∧ tellE (pv - pa) = 0) := by
        rw [← HVE.out]
        by_cases q : 0 ≤ total
        · have := HV.out.1 q; exact tell_in (by omega) (by omega)
        · have := HV.out.2 (by omega); exact tell_in (by omega) (by omega)
      rw [HT.out.1, HT.out.2]
      have HB4 : Hid (Below w.heap.size w w4) := HB3.out.trans (hb4.mono HB3.out.size)
      have HI4 := Lib.hid (ints_up HI3.out hb4)
      clear hb4 HB3 HI3 HT
      obtain ⟨sv, hsv⟩ : ∃ sv, sv = pv - pa := ⟨_, rfl⟩
      rw [← hsv]
      rw [← hsv] at HVE
      clear hsv
      have c1 := (HI4.out k hlt).1
      have c2 := (HI4.out k hlt).2
      go_wp2_with fail
      go_roundw
      case rel =>
        refine ⟨k + 1, by omega, by go_num, by rw [HPV.out], HB4.out.setCell HP.out _, ints_same (ints_set HI4.out hlt sv) (fun t ht => ?_)⟩
        rw [upTo_step, HVE.out]
      case measure => simp [intOf]; omega
    · have hke : k = n := by omega
      subst hke
      go_wp2_with fail
      go_ret2
      exact ⟨HB.out, .inr ⟨rfl, p, rfl, HP.out, ints_same HI.out (fun t ht => by rw [upTo, if_pos ht])⟩⟩

theorem steps_any (total : Int) (f : Nat → Int) (a : Option Addr) (n cap : Nat) (whole : Int) (w : World) (t1 : -9223372036854775808 ≤ total) (t2 : total ≤ 9223372036854775807) (hw2 : whole ≤ 9223372036854775807) (hA : Arg w a n f) :
    Calls Try.prog 10 #[.int .i64 total, .slice a n cap, .int .i64 whole] w (Listed w (stepE f whole n) n (stepV total f whole)) := by
  unfold stepE
  by_cases h1 : 64 < n
  · rw [if_pos h1]
    refine (steps_err total a n cap whole 4 w (by decide) (marks_full a n cap whole w h1)).mono ?_
    rintro e w' ⟨rfl, rfl⟩
    exact ⟨Below.refl _ _, .inl ⟨by decide, rfl⟩⟩
  · rw [if_neg h1]
    by_cases h2 : whole < 1
    · rw [if_pos (.inl h2)]
      refine (steps_err total a n cap whole 1 w (by decide) (marks_whole a n cap whole w (by omega) h2)).mono ?_
      rintro e w' ⟨rfl, rfl⟩
      exact ⟨Below.refl _ _, .inl ⟨by decide, rfl⟩⟩
    · have hm := marks_some f a n cap whole w (by omega) (by omega) hA
      by_cases h3 : RiseTo f whole n
      · rw [if_neg (by rintro (q | q); exact h2 q; exact q h3)]
        exact steps_some total f a n cap whole w t1 t2 (by omega) (by omega) hw2 hA h3 (hm.mono fun e w' ⟨q, r⟩ => ⟨by rcases q with q | q; exact q.1; exact absurd h3 q.2, r⟩)
      · rw [if_pos (.inr h3)]
        refine (steps_err total a n cap whole 1 w (by decide) (hm.mono fun e w' ⟨q, r⟩ => ⟨by rcases q with q | q; exact absurd q.2 h3; exact q.1, r⟩)).mono ?_
        rintro e w' ⟨rfl, rfl⟩
        exact ⟨Below.refl _ _, .inl ⟨by decide, rfl⟩⟩

set_option maxHeartbeats 400000 in
theorem same_quiet (f g : Nat → Int) (a b : Option Addr) (n ca cb : Nat) (w : World) (hn : n ≤ 1000) (hA : Arg w a n f) (hB : Arg w b n g) (h : ∀ t, t < n → f t = g t) :
    Calls Try.prog 12 #[.slice a n ca, .slice b n cb] w fun e w' => e = .returned (.bool true) ∧ ∃ q, w' = w.drewN q := by
  have HA := Lib.hid hA
  have HB := Lib.hid hB
  have HE := Lib.hid h
  clear hA hB h
  go_enter Try.func12, Try.ntmps12
  go_wp2_with fail
  go_loopw [5] (fun vi wr => ∃ k : Nat, k ≤ n ∧ vi = .int .i64 k ∧ ∃ q, wr = w.drewN q) (fun vi _ => n - (intOf vi).toNat)
  case atStart => exact ⟨0, Nat.zero_le _, rfl, 0, rfl⟩
  case round =>
    obtain ⟨k, hk, rfl, hQ⟩ := hrel
    have HQ := Lib.hid hQ
    have HW : Hid (Below w.heap.size w wr) := by obtain ⟨q, rfl⟩ := hQ; exact ⟨rfl, rfl, rfl, Nat.le_refl _, fun _ _ => rfl⟩
    clear hQ
    by_cases hlt : k < n
    · obtain ⟨b1, o1, rfl, r1⟩ := HA.out (by omega)
      obtain ⟨b2, o2, rfl, r2⟩ := HB.out (by omega)
      have c1 : wr.cell? ⟨b1, o1 + k, none⟩ = some (.int .i64 (f k)) := kcell HW.out (r1 k hlt)
      have c2 : wr.cell? ⟨b2, o2 + k, none⟩ = some (.int .i64 (f k)) := by rw [HE.out k hlt]; exact kcell HW.out (r2 k hlt)
      clear r1 r2
      go_wp2_with fail
      go_quiet (fail)
      have HW2 : Hid (∃ q, wr.drewN nq = w.drewN q) := by obtain ⟨q, e⟩ := HQ.out; exact ⟨q + nq, by rw [e]; simp [World.drewN, Nat.add_assoc]⟩
      obtain ⟨Wq, hWq⟩ : ∃ Wq, Wq = wr.drewN nq := ⟨_, rfl⟩
      rw [← hWq] at HW2 ⊢
      clear hWq HW HQ c1 c2
      go_wp2_with fail
      go_roundw
      case rel => exact ⟨k + 1, by omega, by go_num, HW2.out⟩
      case measure => simp [intOf]; omega
    · have hke : k = n := by omega
      subst hke
      go_wp2_with fail
      go_ret
      exact ⟨rfl, HQ.out⟩
theorem same_yes (f g : Nat → Int) (a b : Option Addr) (n ca cb : Nat) (w : World) (hn : n ≤ 1000) (hA : Arg w a n f) (hB : Arg w b n g) (h : ∀ t, t < n → f t = g t) :
    Calls Try.prog 12 #[.slice a n ca, .slice b n cb] w fun e w' => e = .returned (.bool true) ∧ Below w.heap.size w w' :=
  (same_quiet f g a b n ca cb w hn hA hB h).mono fun e w' ⟨h1, q, h2⟩ => ⟨h1, by rw [h2]; exact ⟨rfl, rfl, rfl, Nat.le_refl _, fun _ _ => rfl⟩⟩
end Go.Proofs.Ytiiamiaebhkhaaa
