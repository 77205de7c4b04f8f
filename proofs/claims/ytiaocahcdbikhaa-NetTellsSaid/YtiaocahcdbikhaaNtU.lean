/- The reference's net: Change. -/
import Derived.Test.YtiaocahcdbikhaaNtT
import Derived.Test.YtiaocahcdbikhaaZ
import Derived.Test.YtiaocahcdbikhaaRgB
namespace Go.Proofs.Ytiaocahcdbikhaa
open Go.RowKit

/-- what Change answers -/
def QnR (w : World) (E : Int) (L : List Po) (e : Ending) (w' : World) : Prop :=
  Below w.heap.size w w' ∧ ((E ≠ 0 ∧ e = .returned (.tuple #[.slice none 0 0, .int .i64 E])) ∨ (E = 0 ∧ ∃ a c, e = .returned (.tuple #[.slice a L.length c, .int .i64 0]) ∧ PsA w' a L))
theorem QnR.no {w w' : World} {E : Int} {L : List Po} (hE : E ≠ 0) (hb : Below w.heap.size w w') : QnR w E L (.returned (.tuple #[.slice none 0 0, .int .i64 E])) w' := ⟨hb, .inl ⟨hE, rfl⟩⟩
theorem owp_nil (w0 w : World) (h : Below w0.heap.size w0 w) : OwP w0 (w.alloc (.cells #[] 35)) (.slice (some ⟨w.heap.size, 0, none⟩) 0 0) [] :=
  ⟨⟨rfl, .inr ⟨w.heap.size, 0, #[], rfl, h.size, Has.fresh w _ _, Nat.le_refl _, by unfold maxLen; omega, rfl, rfl⟩⟩, up2 h (boxed _ _)⟩
/-- a sum, told -/
def FitC (n v E : Int) : Prop := ∀ (W : World) (s : Int) (a : Option Addr) (len cap : Nat), Ex W s a len cap n → Calls Try.prog 19 #[.agg #[.int .i64 s, .slice a len cap]] W fun e w' => e = .returned (.tuple #[.int .i64 v, .int .i64 E]) ∧ Below W.heap.size W w'
theorem fitc {n : Int} (h : Small n) : FitC n (tellV n) (tellE n) := fun W s a len cap hE => fit_any s n a len cap W hE h
/-- the sum of two amounts is told -/
def PlC (n m : Int) : Prop := ∀ (W : World) (s t : Int) (a b : Option Addr) (la lb ca cb : Nat), Ex W s a la ca n → Ex W t b lb cb m → Calls Try.prog 20 #[.agg #[.int .i64 s, .slice a la ca], .agg #[.int .i64 t, .slice b lb cb]] W (ExPost W (n + m))
theorem plc {n m : Int} (hn : Am n) (hm : Am m) : PlC n m := fun W s t a b la lb ca cb h1 h2 => plus_ex s t n m a b la lb ca cb W h1 h2 (small64 hn.1 hn.2) (small64 hm.1 hm.2)
set_option maxRecDepth 100000 in
set_option maxHeartbeats 8000000 in
theorem qntchange_any (c b r x y : Int) (w : World) (hb : Am b) (hr : Am r) (hx : Am x) (hy : Am y) : Calls Try.prog 11 #[.int .i64 c, .int .i64 b, .int .i64 r, .int .i64 x, .int .i64 y] w (QnR w (ntE c b r x y) (ntL c b r x y)) := by
  obtain ⟨Q, hQ⟩ : ∃ Q : Int → Ending → World → Prop, Q = fun E => QnR w E (ntL c b r x y) := ⟨_, rfl⟩
  have HNo : Hid (∀ (E : Int) w', E ≠ 0 → Below w.heap.size w w' → Q E (.returned (.tuple #[.slice none 0 0, .int .i64 E])) w') := Lib.hid fun E w' q z => by rw [hQ]; exact QnR.no q z
  have HYes : Hid (∀ (w' : World) a k, OwP w w' (.slice a (ntL c b r x y).length k) (ntL c b r x y) → Q 0 (.returned (.tuple #[.slice a (ntL c b r x y).length k, .int .i64 0])) w') := Lib.hid fun w' a k z => by
    rw [hQ]; exact ⟨z.2, .inr ⟨rfl, a, k, rfl, own_ps18 z.1⟩⟩
  have hgoal : QnR w (ntE c b r x y) (ntL c b r x y) = Q (ntE c b r x y) := by rw [hQ]
  rw [hgoal]
  clear hgoal hQ
  by_cases q1 : c < 0
  · have e0 : ntE c b r x y = 1 := by unfold ntE; rw [if_pos (.inl q1)]
    rw [e0]
    clear e0 hb hr hx hy HYes
    go_enter Try.func11, Try.ntmps11
    go_wp2_with fail
    exact HNo.out 1 _ (by decide) (Below.refl _ _)
  by_cases q2 : 39 < c
  · have e0 : ntE c b r x y = 1 := by unfold ntE; rw [if_pos (.inr (.inl q2))]
    rw [e0]
    clear e0 hb hr hx hy HYes
    go_enter Try.func11, Try.ntmps11
    go_wp2_with fail
    exact HNo.out 1 _ (by decide) (Below.refl _ _)
  by_cases q3 : b < 0
  · have e0 : ntE c b r x y = 1 := by unfold ntE; rw [if_pos (.inr (.inr (.inl q3)))]
    rw [e0]
    clear e0 hb hr hx hy HYes
    go_enter Try.func11, Try.ntmps11
    go_wp2_with fail
    exact HNo.out 1 _ (by decide) (Below.refl _ _)
  by_cases q4 : r < 0
  · have e0 : ntE c b r x y = 1 := by unfold ntE; rw [if_pos (.inr (.inr (.inr q4)))]
    rw [e0]
    clear e0 hb hr hx hy HYes
    go_enter Try.func11, Try.ntmps11
    go_wp2_with fail
    exact HNo.out 1 _ (by decide) (Below.refl _ _)
  -- GEN
  have hbx : Small (b + x) := small_of (by unfold Am at *; omega) (by unfold Am at *; omega)
  have hry : Small (r + y) := small_of (by unfold Am at *; omega) (by unfold Am at *; omega)
  have HO1 := Lib.hid (fun (W : World) => of_any b W hb.1 hb.2)
  have HO2 := Lib.hid (fun (W : World) => of_any x W hx.1 hx.2)
  have HO3 := Lib.hid (fun (W : World) => of_any r W hr.1 hr.2)
  have HO4 := Lib.hid (fun (W : World) => of_any y W hy.1 hy.2)
  have HP1 := Lib.hid (plc hb hx)
  have HP2 := Lib.hid (plc hr hy)
  have HF1 := Lib.hid (fitc hbx)
  have HF2 := Lib.hid (fitc hry)
  rcases tellE_or18 (b + x) with ⟨t1, t2⟩ | t1
  rotate_left
  · have e0 : ntE c b r x y = 3 := by
      unfold ntE
      rw [if_neg (by omega), if_pos (.inl (by rw [t1]; decide))]
    rw [e0]
    rw [t1] at HF1
    generalize tellV (b + x) = tv1 at HF1
    generalize tellV (r + y) = tv2 at HF2
    generalize tellE (r + y) = te2 at HF2
    clear e0 t1 HYes hb hr hx hy hbx hry
    go_enter Try.func11, Try.ntmps11
    go_wp2_with fail
    refine (HO1.out _).mono ?_
    rintro e w1 ⟨s1, a1, l1, c1, rfl, hE1, hb1⟩
    have B1 := Lib.hid hb1
    have E1 := Lib.hid hE1
    clear hE1 hb1
    go_wp2_with fail
    refine (HO2.out _).mono ?_
    rintro e w2 ⟨s2, a2, l2, c2, rfl, hE2, hb2⟩
    have B2 := Lib.hid (up2 B1.out hb2)
    have E12 := Lib.hid (E1.out.below hb2)
    have E2 := Lib.hid hE2
    clear hE2 hb2
    go_wp2_with fail
    refine (HP1.out _ _ _ _ _ _ _ _ _ E12.out E2.out).mono ?_
    rintro e w3 ⟨s3, a3, l3, c3, rfl, hE3, hb3⟩
    have B3 := Lib.hid (up2 B2.out hb3)
    have E3 := Lib.hid hE3
    clear hE3 hb3
    go_wp2_with fail
    refine (HF1.out _ _ _ _ _ E3.out).mono ?_
    rintro e w4 ⟨rfl, hb4⟩
    have B4 := Lib.hid (up2 B3.out hb4)
    clear hb4
    go_wp2_with fail
    refine (HO3.out _).mono ?_
    rintro e w5 ⟨s5, a5, l5, c5, rfl, hE5, hb5⟩
    have B5 := Lib.hid (up2 B4.out hb5)
    have E5 := Lib.hid hE5
    clear hE5 hb5
    go_wp2_with fail
    refine (HO4.out _).mono ?_
    rintro e w6 ⟨s6, a6, l6, c6, rfl, hE6, hb6⟩
    have B6 := Lib.hid (up2 B5.out hb6)
    have E56 := Lib.hid (E5.out.below hb6)
    have E6 := Lib.hid hE6
    clear hE6 hb6
    go_wp2_with fail
    refine (HP2.out _ _ _ _ _ _ _ _ _ E56.out E6.out).mono ?_
    rintro e w7 ⟨s7, a7, l7, c7, rfl, hE7, hb7⟩
    have B7 := Lib.hid (up2 B6.out hb7)
    have E7 := Lib.hid hE7
    clear hE7 hb7
    go_wp2_with fail
    refine (HF2.out _ _ _ _ _ E7.out).mono ?_
    rintro e w8 ⟨rfl, hb8⟩
    have B8 := Lib.hid (up2 B7.out hb8)
    clear hb8
    go_wp2_with fail
    exact HNo.out 3 _ (by decide) B8.out
  rcases tellE_or18 (r + y) with ⟨t3, t4⟩ | t3
  rotate_left
  · have e0 : ntE c b r x y = 3 := by
      unfold ntE
      rw [if_neg (by omega), if_pos (.inr (by rw [t3]; decide))]
    rw [e0]
    rw [t1, t2] at HF1
    rw [t3] at HF2
    generalize tellV (r + y) = tv2 at HF2
    clear e0 t1 t2 t3 HYes hb hr hx hy hbx hry
    go_enter Try.func11, Try.ntmps11
    go_wp2_with fail
    refine (HO1.out _).mono ?_
    rintro e w1 ⟨s1, a1, l1, c1, rfl, hE1, hb1⟩
    have B1 := Lib.hid hb1
    have E1 := Lib.hid hE1
    clear hE1 hb1
    go_wp2_with fail
    refine (HO2.out _).mono ?_
    rintro e w2 ⟨s2, a2, l2, c2, rfl, hE2, hb2⟩
    have B2 := Lib.hid (up2 B1.out hb2)
    have E12 := Lib.hid (E1.out.below hb2)
    have E2 := Lib.hid hE2
    clear hE2 hb2
    go_wp2_with fail
    refine (HP1.out _ _ _ _ _ _ _ _ _ E12.out E2.out).mono ?_
    rintro e w3 ⟨s3, a3, l3, c3, rfl, hE3, hb3⟩
    have B3 := Lib.hid (up2 B2.out hb3)
    have E3 := Lib.hid hE3
    clear hE3 hb3
    go_wp2_with fail
    refine (HF1.out _ _ _ _ _ E3.out).mono ?_
    rintro e w4 ⟨rfl, hb4⟩
    have B4 := Lib.hid (up2 B3.out hb4)
    clear hb4
    go_wp2_with fail
    refine (HO3.out _).mono ?_
    rintro e w5 ⟨s5, a5, l5, c5, rfl, hE5, hb5⟩
    have B5 := Lib.hid (up2 B4.out hb5)
    have E5 := Lib.hid hE5
    clear hE5 hb5
    go_wp2_with fail
    refine (HO4.out _).mono ?_
    rintro e w6 ⟨s6, a6, l6, c6, rfl, hE6, hb6⟩
    have B6 := Lib.hid (up2 B5.out hb6)
    have E56 := Lib.hid (E5.out.below hb6)
    have E6 := Lib.hid hE6
    clear hE6 hb6
    go_wp2_with fail
    refine (HP2.out _ _ _ _ _ _ _ _ _ E56.out E6.out).mono ?_
    rintro e w7 ⟨s7, a7, l7, c7, rfl, hE7, hb7⟩
    have B7 := Lib.hid (up2 B6.out hb7)
    have E7 := Lib.hid hE7
    clear hE7 hb7
    go_wp2_with fail
    refine (HF2.out _ _ _ _ _ E7.out).mono ?_
    rintro e w8 ⟨rfl, hb8⟩
    have B8 := Lib.hid (up2 B7.out hb8)
    clear hb8
    go_wp2_with fail
    exact HNo.out 3 _ (by decide) B8.out
  rw [t1, t2] at HF1
  rw [t3, t4] at HF2
  by_cases q5 : b + x < 0
  · have e0 : ntE c b r x y = 1 := by
      unfold ntE
      rw [if_neg (by omega), if_neg (fun z => z.elim (fun z => z t1) fun z => z t3), if_pos (.inl q5)]
    rw [e0]
    clear e0 t1 t2 t3 t4 HYes hb hr hx hy hbx hry
    go_enter Try.func11, Try.ntmps11
    go_wp2_with fail
    refine (HO1.out _).mono ?_
    rintro e w1 ⟨s1, a1, l1, c1, rfl, hE1, hb1⟩
    have B1 := Lib.hid hb1
    have E1 := Lib.hid hE1
    clear hE1 hb1
    go_wp2_with fail
    refine (HO2.out _).mono ?_
    rintro e w2 ⟨s2, a2, l2, c2, rfl, hE2, hb2⟩
    have B2 := Lib.hid (up2 B1.out hb2)
    have E12 := Lib.hid (E1.out.below hb2)
    have E2 := Lib.hid hE2
    clear hE2 hb2
    go_wp2_with fail
    refine (HP1.out _ _ _ _ _ _ _ _ _ E12.out E2.out).mono ?_
    rintro e w3 ⟨s3, a3, l3, c3, rfl, hE3, hb3⟩
    have B3 := Lib.hid (up2 B2.out hb3)
    have E3 := Lib.hid hE3
    clear hE3 hb3
    go_wp2_with fail
    refine (HF1.out _ _ _ _ _ E3.out).mono ?_
    rintro e w4 ⟨rfl, hb4⟩
    have B4 := Lib.hid (up2 B3.out hb4)
    clear hb4
    go_wp2_with fail
    refine (HO3.out _).mono ?_
    rintro e w5 ⟨s5, a5, l5, c5, rfl, hE5, hb5⟩
    have B5 := Lib.hid (up2 B4.out hb5)
    have E5 := Lib.hid hE5
    clear hE5 hb5
    go_wp2_with fail
    refine (HO4.out _).mono ?_
    rintro e w6 ⟨s6, a6, l6, c6, rfl, hE6, hb6⟩
    have B6 := Lib.hid (up2 B5.out hb6)
    have E56 := Lib.hid (E5.out.below hb6)
    have E6 := Lib.hid hE6
    clear hE6 hb6
    go_wp2_with fail
    refine (HP2.out _ _ _ _ _ _ _ _ _ E56.out E6.out).mono ?_
    rintro e w7 ⟨s7, a7, l7, c7, rfl, hE7, hb7⟩
    have B7 := Lib.hid (up2 B6.out hb7)
    have E7 := Lib.hid hE7
    clear hE7 hb7
    go_wp2_with fail
    refine (HF2.out _ _ _ _ _ E7.out).mono ?_
    rintro e w8 ⟨rfl, hb8⟩
    have B8 := Lib.hid (up2 B7.out hb8)
    clear hb8
    go_wp2_with fail
    exact HNo.out 1 _ (by decide) B8.out
  by_cases q6 : r + y < 0
  · have e0 : ntE c b r x y = 1 := by
      unfold ntE
      rw [if_neg (by omega), if_neg (fun z => z.elim (fun z => z t1) fun z => z t3), if_pos (.inr q6)]
    rw [e0]
    clear e0 t1 t2 t3 t4 HYes hb hr hx hy hbx hry
    go_enter Try.func11, Try.ntmps11
    go_wp2_with fail
    refine (HO1.out _).mono ?_
    rintro e w1 ⟨s1, a1, l1, c1, rfl, hE1, hb1⟩
    have B1 := Lib.hid hb1
    have E1 := Lib.hid hE1
    clear hE1 hb1
    go_wp2_with fail
    refine (HO2.out _).mono ?_
    rintro e w2 ⟨s2, a2, l2, c2, rfl, hE2, hb2⟩
    have B2 := Lib.hid (up2 B1.out hb2)
    have E12 := Lib.hid (E1.out.below hb2)
    have E2 := Lib.hid hE2
    clear hE2 hb2
    go_wp2_with fail
    refine (HP1.out _ _ _ _ _ _ _ _ _ E12.out E2.out).mono ?_
    rintro e w3 ⟨s3, a3, l3, c3, rfl, hE3, hb3⟩
    have B3 := Lib.hid (up2 B2.out hb3)
    have E3 := Lib.hid hE3
    clear hE3 hb3
    go_wp2_with fail
    refine (HF1.out _ _ _ _ _ E3.out).mono ?_
    rintro e w4 ⟨rfl, hb4⟩
    have B4 := Lib.hid (up2 B3.out hb4)
    clear hb4
    go_wp2_with fail
    refine (HO3.out _).mono ?_
    rintro e w5 ⟨s5, a5, l5, c5, rfl, hE5, hb5⟩
    have B5 := Lib.hid (up2 B4.out hb5)
    have E5 := Lib.hid hE5
    clear hE5 hb5
    go_wp2_with fail
    refine (HO4.out _).mono ?_
    rintro e w6 ⟨s6, a6, l6, c6, rfl, hE6, hb6⟩
    have B6 := Lib.hid (up2 B5.out hb6)
    have E56 := Lib.hid (E5.out.below hb6)
    have E6 := Lib.hid hE6
    clear hE6 hb6
    go_wp2_with fail
    refine (HP2.out _ _ _ _ _ _ _ _ _ E56.out E6.out).mono ?_
    rintro e w7 ⟨s7, a7, l7, c7, rfl, hE7, hb7⟩
    have B7 := Lib.hid (up2 B6.out hb7)
    have E7 := Lib.hid hE7
    clear hE7 hb7
    go_wp2_with fail
    refine (HF2.out _ _ _ _ _ E7.out).mono ?_
    rintro e w8 ⟨rfl, hb8⟩
    have B8 := Lib.hid (up2 B7.out hb8)
    clear hb8
    go_wp2_with fail
    exact HNo.out 1 _ (by decide) B8.out
  have e0 : ntE c b r x y = 0 := by
    unfold ntE
    rw [if_neg (by omega), if_neg (fun z => z.elim (fun z => z t1) fun z => z t3), if_neg (by omega)]
  rw [e0]
  have k := nt_ok e0
  have k0 := k.b0; have k1 := k.r0; have k2 := k.b2; have k3 := k.b3; have k4 := k.r2; have k5 := k.r3
  have f1 : sidE b r = 0 := by unfold sidE; rw [if_neg (by omega)]
  have f2 : sidE (b + x) (r + y) = 0 := by unfold sidE; rw [if_neg (by omega)]
  have s1 := sides_bd k0 hb.2 k1 hr.2
  have s2 := sides_bd k2 k3 k4 k5
  have HS1 := Lib.hid (fun (W : World) => qntSides_any b r W hb hr)
  have HS2 := Lib.hid (fun (W : World) => qntSides_any (b + x) (r + y) W (by unfold Am; omega) (by unfold Am; omega))
  unfold sidL sidA at HS1 HS2
  rw [f1, if_pos rfl, if_pos rfl] at HS1
  rw [f2, if_pos rfl, if_pos rfl] at HS2
  have hL : ntL c b r x y = ((([] ++ onePo 0 c x) ++ onePo 1 c (-(liaV (b + x) (r + y) - liaV b r))) ++ onePo 2 c (assV (b + x) (r + y) - assV b r)) ++ onePo 3 c (-y) := by
    unfold ntL; simp
  rw [hL] at HYes
  have g1 : IntKind.i64.wrap (liaV (b + x) (r + y) - liaV b r) = liaV (b + x) (r + y) - liaV b r := IntWalk.i64_in _ (by omega)
  have g2 : IntKind.i64.wrap (-(liaV (b + x) (r + y) - liaV b r)) = -(liaV (b + x) (r + y) - liaV b r) := IntWalk.i64_in _ (by omega)
  have g3 : IntKind.i64.wrap (assV (b + x) (r + y) - assV b r) = assV (b + x) (r + y) - assV b r := IntWalk.i64_in _ (by omega)
  have g4 : IntKind.i64.wrap (-y) = -y := IntWalk.i64_in _ (by unfold Am at *; omega)
  have on1 : ∀ a n, (onePo a c n).length ≤ 1 := fun a n => by unfold onePo; split <;> simp
  generalize liaV b r = la at HS1 HYes g1 g2
  generalize assV b r = sa at HS1 HYes g3
  generalize liaV (b + x) (r + y) = lb at HS2 HYes g1 g2
  generalize assV (b + x) (r + y) = sb at HS2 HYes g3
  have HW1 : Hid (∀ W v, OwP w W v [] → Calls Try.prog 22 #[v, .int .i64 0, .int .i64 c, .int .i64 x] W (OwR w ([] ++ onePo 0 c x))) := Lib.hid fun W v h => qntwith_any h (by simp) 0 c x
  generalize hl1 : [] ++ onePo 0 c x = L1 at HW1 HYes
  have n1 : L1.length ≤ 1 := by rw [← hl1]; have := on1 0 x; simpa using this
  have HW2 : Hid (∀ W v, OwP w W v L1 → Calls Try.prog 22 #[v, .int .i64 1, .int .i64 c, .int .i64 (-(lb - la))] W (OwR w (L1 ++ onePo 1 c (-(lb - la))))) := Lib.hid fun W v h => qntwith_any h (by omega) 1 c _
  generalize hl2 : L1 ++ onePo 1 c (-(lb - la)) = L2 at HW2 HYes
  have n2 : L2.length ≤ 2 := by rw [← hl2]; have := on1 1 (-(lb - la)); rw [List.length_append]; omega
  have HW3 : Hid (∀ W v, OwP w W v L2 → Calls Try.prog 22 #[v, .int .i64 2, .int .i64 c, .int .i64 (sb - sa)] W (OwR w (L2 ++ onePo 2 c (sb - sa)))) := Lib.hid fun W v h => qntwith_any h (by omega) 2 c _
  generalize hl3 : L2 ++ onePo 2 c (sb - sa) = L3 at HW3 HYes
  have n3 : L3.length ≤ 3 := by rw [← hl3]; have := on1 2 (sb - sa); rw [List.length_append]; omega
  have HW4 : Hid (∀ W v, OwP w W v L3 → Calls Try.prog 22 #[v, .int .i64 3, .int .i64 c, .int .i64 (-y)] W (OwR w (L3 ++ onePo 3 c (-y)))) := Lib.hid fun W v h => qntwith_any h (by omega) 3 c _
  generalize L3 ++ onePo 3 c (-y) = L4 at HW4 HYes
  unfold OwR at HW1 HW2 HW3 HW4
  clear e0 t1 t2 t3 t4 hb hr hx hy hbx hry k k0 k1 k2 k3 k4 k5 f1 f2 s1 s2 hL on1 hl1 hl2 hl3 n1 n2 n3 HNo
  go_enter Try.func11, Try.ntmps11
  go_wp2_with fail
  refine (HO1.out _).mono ?_
  rintro e w1 ⟨s1, a1, l1, c1, rfl, hE1, hb1⟩
  have B1 := Lib.hid hb1
  have E1 := Lib.hid hE1
  clear hE1 hb1
  go_wp2_with fail
  refine (HO2.out _).mono ?_
  rintro e w2 ⟨s2, a2, l2, c2, rfl, hE2, hb2⟩
  have B2 := Lib.hid (up2 B1.out hb2)
  have E12 := Lib.hid (E1.out.below hb2)
  have E2 := Lib.hid hE2
  clear hE2 hb2
  go_wp2_with fail
  refine (HP1.out _ _ _ _ _ _ _ _ _ E12.out E2.out).mono ?_
  rintro e w3 ⟨s3, a3, l3, c3, rfl, hE3, hb3⟩
  have B3 := Lib.hid (up2 B2.out hb3)
  have E3 := Lib.hid hE3
  clear hE3 hb3
  go_wp2_with fail
  refine (HF1.out _ _ _ _ _ E3.out).mono ?_
  rintro e w4 ⟨rfl, hb4⟩
  have B4 := Lib.hid (up2 B3.out hb4)
  clear hb4
  go_wp2_with fail
  refine (HO3.out _).mono ?_
  rintro e w5 ⟨s5, a5, l5, c5, rfl, hE5, hb5⟩
  have B5 := Lib.hid (up2 B4.out hb5)
  have E5 := Lib.hid hE5
  clear hE5 hb5
  go_wp2_with fail
  refine (HO4.out _).mono ?_
  rintro e w6 ⟨s6, a6, l6, c6, rfl, hE6, hb6⟩
  have B6 := Lib.hid (up2 B5.out hb6)
  have E56 := Lib.hid (E5.out.below hb6)
  have E6 := Lib.hid hE6
  clear hE6 hb6
  go_wp2_with fail
  refine (HP2.out _ _ _ _ _ _ _ _ _ E56.out E6.out).mono ?_
  rintro e w7 ⟨s7, a7, l7, c7, rfl, hE7, hb7⟩
  have B7 := Lib.hid (up2 B6.out hb7)
  have E7 := Lib.hid hE7
  clear hE7 hb7
  go_wp2_with fail
  refine (HF2.out _ _ _ _ _ E7.out).mono ?_
  rintro e w8 ⟨rfl, hb8⟩
  have B8 := Lib.hid (up2 B7.out hb8)
  clear hb8
  go_wp2_with fail
  refine (HS1.out _).mono ?_
  rintro e w9 ⟨rfl, hb9⟩
  have B9 := Lib.hid (up2 B8.out hb9)
  clear hb9
  go_wp2_with fail
  refine (HS2.out _).mono ?_
  rintro e w10 ⟨rfl, hb10⟩
  have B10 := Lib.hid (up2 B9.out hb10)
  clear hb10
  go_wp2_with fail
  refine (HW1.out _ _ (owp_nil w w10 B10.out)).mono ?_
  rintro e w11 ⟨a11, c11, rfl, h11⟩
  have H11 := Lib.hid h11
  clear h11
  go_wp2_with fail
  refine (HW2.out _ _ H11.out).mono ?_
  rintro e w12 ⟨a12, c12, rfl, h12⟩
  have H12 := Lib.hid h12
  clear h12
  go_wp2_with fail
  refine (HW3.out _ _ H12.out).mono ?_
  rintro e w13 ⟨a13, c13, rfl, h13⟩
  have H13 := Lib.hid h13
  clear h13
  go_wp2_with fail
  refine (HW4.out _ _ H13.out).mono ?_
  rintro e w14 ⟨a14, c14, rfl, h14⟩
  have H14 := Lib.hid h14
  clear h14
  go_wp2_with fail
  exact HYes.out _ _ _ H14.out
end Go.Proofs.Ytiaocahcdbikhaa
