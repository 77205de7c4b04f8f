/- Contract: the reference's Steps. -/
import Derived.Test.YtiiamiaebhkhaaaRoAll
import Derived.Test.YtiiamiaebhkhaaaStepsE
namespace Go.Proofs.Ytiiamiaebhkhaaa
open Go.RowKit

/-- while the reference gathers steps: the list, the marks, and the part ahead in its own block -/
structure T2 (w : World) (B k b off n ql : Nat) (vo : Value) (f fv : Nat → Int) (m s : Int) (x : Option Addr) (l c : Nat) (W : World) : Prop where
  bel : Below w.heap.size w W
  own : W.ownsRow B 2 1 vo k (valsTo fv k)
  row : Row W b off n f
  box : Box W ql s x l c m
  b0 : w.heap.size ≤ B
  q0 : w.heap.size ≤ ql
  bs : B ≤ W.heap.size
variable {w W W' : World} {B k b off n ql : Nat} {vo : Value} {f fv : Nat → Int} {m s : Int} {x : Option Addr} {l c : Nat}
theorem T2.up (h : T2 w B k b off n ql vo f fv m s x l c W) (hb : Below W.heap.size W W') : T2 w B k b off n ql vo f fv m s x l c W' :=
  ⟨up2 h.bel hb, owns_below h.own hb, h.row.below hb, h.box.below hb, h.b0, h.q0, Nat.le_trans h.bs hb.size⟩
theorem T2.drew (h : T2 w B k b off n ql vo f fv m s x l c W) : T2 w B k b off n ql vo f fv m s x l c W.drew := h.up (Below.refl _ _).drew
theorem T2.alloc (h : T2 w B k b off n ql vo f fv m s x l c W) (o : Obj) : T2 w B k b off n ql vo f fv m s x l c (W.alloc o) := h.up ((Below.refl _ _).alloc (Nat.le_refl _) _)
theorem Ex.alloc (h : Ex W s x l c m) (o : Obj) : Ex (W.alloc o) s x l c m := h.below ((Below.refl _ _).alloc (Nat.le_refl _) _)
theorem own_set {v : Value} {xs : List Value} {q : Nat} (h : W.ownsRow B 2 1 v k xs) (hq : T30 W q) (u0 u1 : Value) : ((W.setCell ⟨q, 0, none⟩ u0).setCell ⟨q, 1, none⟩ u1).ownsRow B 2 1 v k xs :=
  owns_block h fun g hg => by
    obtain ⟨_, cur, hh⟩ := owns_lt h g hg
    obtain ⟨C, fr, h2⟩ := hq
    have hne : g ≠ q := by intro e; subst e; rw [h2] at hh; simp at hh
    rw [Below.heap_setCell _ _ _ _ hne, Below.heap_setCell _ _ _ _ hne]
theorem row_set {q : Nat} (h : Row W b off n f) (hne : b ≠ q) (u0 u1 : Value) : Row ((W.setCell ⟨q, 0, none⟩ u0).setCell ⟨q, 1, none⟩ u1) b off n f := fun t ht => by
  have k0 : But q W ((W.setCell ⟨q, 0, none⟩ u0).setCell ⟨q, 1, none⟩ u1) := ((But.refl q W).set _ _).set _ _
  exact (k0.cell (p := ⟨b, off + t, none⟩) hne).trans (h t ht)
theorem T2.put (h : T2 w B k b off n ql vo f fv m s x l c W) (hb : b ≠ ql) {t m' : Int} {y : Option Addr} {l2 c2 : Nat} (hE : Ex W t y l2 c2 m') :
    T2 w B k b off n ql vo f fv m' t y l2 c2 ((W.setCell ⟨ql, 0, none⟩ (.int .i64 t)).setCell ⟨ql, 1, none⟩ (.slice y l2 c2)) :=
  ⟨(h.bel.setCell h.q0 _).setCell h.q0 _, own_set h.own h.box.2.1 _ _, row_set h.row hb _ _, h.box.put hE, h.b0, h.q0, by simpa using h.bs⟩
theorem T2.other (h : T2 w B k b off n ql vo f fv m s x l c W) {q : Nat} (hq : T30 W q) (hb : b ≠ q) (hne : q ≠ ql) (h0 : w.heap.size ≤ q) (u0 u1 : Value) :
    T2 w B k b off n ql vo f fv m s x l c ((W.setCell ⟨q, 0, none⟩ u0).setCell ⟨q, 1, none⟩ u1) :=
  ⟨(h.bel.setCell h0 _).setCell h0 _, own_set h.own hq _ _, row_set h.row hb _ _, h.box.other hne hq _ _, h.b0, h.q0, by simpa using h.bs⟩
theorem Box.res_put {q : Nat} (h : Res W q) (hE : Ex W s x l c m) : Box ((W.setCell ⟨q, 0, none⟩ (.int .i64 s)).setCell ⟨q, 1, none⟩ (.slice x l c)) q s x l c m := h.box.put hE
theorem Res.down {q : Nat} (h : Res W q) (hb : Below W.heap.size W W') : Res W' q := h.up hb h.1.lt

theorem Res.drew {q : Nat} (h : Res W q) : Res W.drew q := h
def SQ (b o : Nat) (v : Value) (W : World) : Prop := W.cell? ⟨b, o, none⟩ = some v
theorem SQ.set {o q i : Nat} {v u : Value} (h : SQ b o v W) (hne : b ≠ q) : SQ b o v (W.setCell ⟨q, i, none⟩ u) := (((But.refl q W).set i u).cell (p := ⟨b, o, none⟩) hne).trans h
theorem T2.sq (h : T2 w B k b off n ql vo f fv m s x l c W) {j : Nat} (hj : j < n) : SQ b (off + j) (.int .i64 (f j)) W := h.row j hj

theorem rsteps_full (total : Int) (a : Option Addr) (n cap : Nat) (whole : Int) (w : World) (h : 64 < n) :
    Calls Try.prog 11 #[.int .i64 total, .slice a n cap, .int .i64 whole] w fun e w' => e = .returned (.tuple #[.slice none 0 0, .int .i64 4]) ∧ w = w' := by
  have z : (64 : Int) < (n : Int) := by omega
  go_enter Try.func11, Try.ntmps11
  go_wp2_with fail
  go_ret2
  exact ⟨rfl, rfl⟩
theorem rsteps_whole (total : Int) (a : Option Addr) (n cap : Nat) (whole : Int) (w : World) (h : n ≤ 64) (hw : whole < 1) :
    Calls Try.prog 11 #[.int .i64 total, .slice a n cap, .int .i64 whole] w fun e w' => e = .returned (.tuple #[.slice none 0 0, .int .i64 1]) ∧ w = w' := by
  have z : ¬ (64 : Int) < (n : Int) := by omega
  go_enter Try.func11, Try.ntmps11
  go_wp2_with fail
  go_ret2
  exact ⟨rfl, rfl⟩
def SPost (w : World) (total : Int) (f : Nat → Int) (whole : Int) (n : Nat) (e : Ending) (w' : World) : Prop := RListed w (stepE f whole n) n (stepV total f whole) e w'
theorem lim2_am {v : Int} (h : Am v) : Small v := small64 h.1 h.2

theorem stepE_no {f : Nat → Int} {whole : Int} {n : Nat} (hn : n ≤ 64) (h : ¬ RiseTo f whole n) : stepE f whole n = 1 := by
  unfold stepE; rw [if_neg (by omega), if_pos (.inr h)]

set_option maxRecDepth 1000000 in
set_option maxHeartbeats 40000000 in
theorem rsteps_some (total : Int) (f : Nat → Int) (a : Option Addr) (n cap : Nat) (whole : Int) (w : World) (hf : Amounts f) (t1 : -9223372036854775808 ≤ total) (t2 : total ≤ 9223372036854775807) (hn : n ≤ 64) (hw : 1 ≤ whole) (hw2 : whole ≤ 9223372036854775807) (hA : Arg w a n f) :
    Calls Try.prog 11 #[.int .i64 total, .slice a n cap, .int .i64 whole] w (SPost w total f whole n) := by
  obtain ⟨i0, hi, hz0, hz1, hz2⟩ := info_parts Try.infoI64
  have HA := Lib.hid hA
  have HF := Lib.hid hf
  have hz : ¬ (64 : Int) < (n : Int) := by omega
  have hwz : decide (whole < 1) = false := by simp; omega
  clear hA hf
  go_enter Try.func11, Try.ntmps11
  go_wp2_with fail
  go_loopw [8] (fun vi wr => ∃ j : Nat, j ≤ n ∧ vi = .int .i64 j ∧ Below w.heap.size w wr ∧ Hid (RiseTo f whole j)) (fun vi _ => n - (intOf vi).toNat)
  case atStart => exact ⟨0, Nat.zero_le _, rfl, Below.refl _ _, (fun t ht => by omega)⟩
  case round =>
    obtain ⟨j, hj, rfl, hB, HI⟩ := hrel
    have HB := Lib.hid hB
    clear hB
    by_cases hlt : j < n
    · obtain ⟨b, off, ha, hr⟩ := HA.out (by omega)
      subst ha
      have c1 : wr.cell? ⟨b, off + j, none⟩ = some (.int .i64 (f j)) := kcell HB.out (hr j hlt)
      have hjz : (j : Int) < (n : Int) := by omega
      by_cases e1 : f j < 0
      · have HN : Hid (¬ RiseTo f whole n) := fun q => by have := q.pos j hlt; omega
        have e1z : decide (f j < 0) = true := by simp [e1]
        clear hr
        go_wp2_with fail
        go_quiet (fail)
        go_wp2_with fail
        go_ret2
        unfold SPost
        rw [stepE_no hn HN.out]
        exact ⟨up2 HB.out (drew_below _ _), .inl ⟨by decide, rfl⟩⟩
      · have e1z : decide (f j < 0) = false := by simp; omega
        by_cases e2 : whole < f j
        · have HN : Hid (¬ RiseTo f whole n) := fun q => by have := (q j hlt).2; omega
          have e2z : decide (f j > whole) = true := by simp; omega
          clear hr
          go_wp2_with fail
          go_quiet (fail)
          go_wp2_with fail
          go_ret2
          unfold SPost
          rw [stepE_no hn HN.out]
          exact ⟨up2 HB.out (drew_below _ _), .inl ⟨by decide, rfl⟩⟩
        · have e2z : decide (f j > whole) = false := by simp; omega
          have HE2 : Hid (0 ≤ f j ∧ f j ≤ whole) := ⟨by omega, by omega⟩
          by_cases e3 : j = 0
          · subst e3
            have c1' : wr.cell? ⟨b, off, none⟩ = some (.int .i64 (f 0)) := by simpa using c1
            clear hr e1 e2 c1
            go_wp2_with fail
            go_quiet (fail)
            have HB2 := Lib.hid (up2 HB.out (drew_below wr nq))
            obtain ⟨Wq, hWq⟩ : ∃ Wq, Wq = wr.drewN nq := ⟨_, rfl⟩
            rw [← hWq] at HB2 ⊢
            clear hWq HB c1'
            go_wp2_with fail
            go_roundw
            case rel => exact ⟨1, by omega, by go_num, HB2.out, rise_step HI.out (by unfold aheadV; rw [if_pos rfl]; exact HE2.out.1) HE2.out.2⟩
            case measure => simp [intOf]; omega
          · obtain ⟨p, rfl⟩ : ∃ p, j = p + 1 := ⟨j - 1, by omega⟩
            have c2 : wr.cell? ⟨b, off + p, none⟩ = some (.int .i64 (f p)) := kcell HB.out (hr p (by omega))
            have hwp : IntKind.i64.wrap (p : Int) = (p : Int) := by rw [IntKind.wrap_i64]; omega
            have z1 : (0 : Int) < (p : Int) + 1 := by omega
            have z2 : (p : Int) + 1 < (n : Int) := by omega
            have z3 : (p : Int) < (n : Int) := by omega
            have z4 : (0 : Int) ≤ (p : Int) + 1 := by omega
            have z5 : ((p : Int) + 1).toNat = p + 1 := by omega
            by_cases e4 : f (p + 1) < f p
            · have HN : Hid (¬ RiseTo f whole n) := fun q => by have := (q (p + 1) hlt).1; rw [if_neg (by omega), Nat.add_sub_cancel] at this; omega
              have e4z : decide (f (p + 1) < f p) = true := by simp [e4]
              clear hr e1 e2
              go_wp2_with fail
              go_quiet (fail)
              go_wp2_with fail
              go_ret2
              unfold SPost
              rw [stepE_no hn HN.out]
              exact ⟨up2 HB.out (drew_below _ _), .inl ⟨by decide, rfl⟩⟩
            · have e4z : decide (f (p + 1) < f p) = false := by simp; omega
              have HE4 : Hid (f p ≤ f (p + 1)) := by show f p ≤ _; omega
              clear hr e1 e2 e4
              go_wp2_with fail
              go_quiet (fail)
              have HB2 := Lib.hid (up2 HB.out (drew_below wr nq))
              obtain ⟨Wq, hWq⟩ : ∃ Wq, Wq = wr.drewN nq := ⟨_, rfl⟩
              rw [← hWq] at HB2 ⊢
              clear hWq HB c1 c2
              go_wp2_with fail
              go_roundw
              case rel => exact ⟨p + 1 + 1, by omega, by go_num, HB2.out, rise_step HI.out (by unfold aheadV; rw [if_neg (by omega), Nat.add_sub_cancel]; exact HE4.out) HE2.out.2⟩
              case measure => simp [intOf]; omega
    · have hje : j = n := by omega
      subst hje
      clear hlt
      have HSE : Hid (stepE f whole j = 0) := stepE_of hn hw HI.out
      have HRi := Lib.hid HI.out
      obtain ⟨wo, hwo⟩ : ∃ wo, wo = wr := ⟨_, rfl⟩
      rw [← hwo] at HB ⊢
      clear hwo HI
      have HU : Hid (Below w.heap.size w (wo.alloc (.cells #[] 2)) ∧ (wo.alloc (.cells #[] 2)).ownsRow wo.heap.size 2 1 (.slice (some ⟨wo.heap.size, 0, none⟩) 0 0) 0 (valsTo (stepV total f whole) 0)) :=
        ⟨up1 HB.out _, rfl, .inr ⟨wo.heap.size, 0, #[], rfl, Nat.le_refl _, heap_alloc_new wo _, Nat.le_refl _, Nat.zero_le _, rfl, rfl⟩⟩
      have b0 := HB.out.size
      go_wp2_with fail
      obtain ⟨W1, hW1⟩ : ∃ W1, W1 = wo.alloc (.cells #[] 2) := ⟨_, rfl⟩
      have hs1 : wo.heap.size ≤ W1.heap.size := by rw [hW1]; simp
      obtain ⟨B, hBe⟩ : ∃ B, B = wo.heap.size := ⟨_, rfl⟩
      rw [← hW1, ← hBe] at HU
      rw [← hW1, ← hBe]
      rw [← hBe] at b0 hs1
      clear hW1 hBe HB
      go_loopw [9, 10] (fun vo vi wr => ∃ i : Nat, i ≤ j ∧ vi = .int .i64 i ∧ Below w.heap.size w wr ∧ B ≤ wr.heap.size ∧ wr.ownsRow B 2 1 vo i (valsTo (stepV total f whole) i) ∧ Hid (i = 0 → vo = .slice (some ⟨B, 0, none⟩) 0 0)) (fun _ vi _ => j - (intOf vi).toNat)
      case atStart => exact ⟨0, Nat.zero_le _, rfl, HU.out.1, hs1, HU.out.2, (fun _ => rfl)⟩
      case round =>
        clear HU hs1
        obtain ⟨i, hi', rfl, hB, hBs, hown, HV0⟩ := hrel
        have HB := Lib.hid hB
        have HO := Lib.hid hown
        clear hB hown
        by_cases hij : i < j
        · obtain ⟨b, off, ha, hr⟩ := HA.out (by omega)
          subst ha
          have hbl : b < w.heap.size := World.block_lt_of_cell? (a := ⟨b, off + i, none⟩) _ (hr i hij)
          have HRow : Hid (Row wr b off j f) := fun t ht => kcell HB.out (hr t ht)
          have HS0 : Hid (T2 w B i b off j wr.heap.size u9 f (stepV total f whole) 0 0 none 0 0 (wr.alloc (.cells #[.int .i64 0, .slice none 0 0] 41))) := by
            have ha : Below wr.heap.size wr (wr.alloc (.cells #[.int .i64 0, .slice none 0 0] 41)) := (Below.refl _ _).alloc (Nat.le_refl _) _
            exact ⟨up2 HB.out ha, owns_below HO.out ha, HRow.out.below ha, (Res.start wr).box, b0, HB.out.size, by simp; omega⟩
          have hql : w.heap.size ≤ wr.heap.size := HB.out.size
          have hijz : (i : Int) < (j : Int) := by omega
          clear hr HRow HO HB
          go_upto_if 64 with fail
          obtain ⟨W0, hW0⟩ : ∃ W0, W0 = wr.alloc (.cells #[.int .i64 0, .slice none 0 0] 41) := ⟨_, rfl⟩
          obtain ⟨ql, hqe⟩ : ∃ ql, ql = wr.heap.size := ⟨_, rfl⟩
          rw [← hW0, ← hqe] at HS0
          rw [← hW0, ← hqe]
          rw [← hqe] at hql
          clear hW0 hqe hBs
          have HTa : Hid (Am total) := ⟨t1, t2⟩
          have ww1 : -9223372036854775808 ≤ whole := by omega
          go_cut [] (fun wx => ∃ s x l c, T2 w B i b off j ql u9 f (stepV total f whole) (stepP total f whole i) s x l c wx)
          case first =>
            by_cases hi0 : i = 0
            · subst hi0
              go_wp2_with fail
              go_meet
              exact ⟨_, _, _, _, by rw [show stepP total f whole 0 = 0 by simp [stepP]]; exact HS0.out⟩
            · obtain ⟨p, rfl⟩ : ∃ p, i = p + 1 := ⟨i - 1, by omega⟩
              have hidx : p < j := by omega
              have HS := Lib.hid HS0.out
              have c1 := HS0.out.row p hidx
              obtain ⟨fp1, fp2⟩ := HF.out p
              have HFa : Hid (0 ≤ f p ∧ Am (f p)) := ⟨HRi.out.pos p hidx, fp1, fp2⟩
              have hwp : IntKind.i64.wrap (p : Int) = (p : Int) := by rw [IntKind.wrap_i64]; omega
              have z1 : (0 : Int) < (p : Int) + 1 := by omega
              have z3 : (p : Int) < (j : Int) := by omega
              have hbn : b ≠ ql := by omega
              clear HS0
              go_wp2_with fail
              go_region_held3 (fun w' => w'.cell? ⟨b, off + p, none⟩ = some (.int .i64 (f p)))
                ((change SQ b (off + p) (.int .i64 (f p)) _; with_reducible (first | exact HS.out.drew.sq hidx | exact k1.out.sq hidx | exact k2.out.sq hidx | exact k3.out.sq hidx | exact k4.out.sq hidx | exact k5.out.sq hidx | exact ((k5.out.sq hidx).set hbn).set hbn)))
                (first | (go_at_call 22; ((with_reducible refine (of_any total _ t1 t2).mono ?_); rintro e w10 ⟨s1, x1, l1, c1, rfl, hE1, hb1⟩; ((with_reducible have k1 := Lib.hid (HS.out.drew.up hb1))); have e1 := Lib.hid hE1; have z10 := k1.out.bel.size; clear hE1 hb1)) | (go_at_call 22; ((with_reducible refine (of_any (f p) _ fp1 fp2).mono ?_); rintro e w20 ⟨s2, x2, l2, c2, rfl, hE2, hb2⟩; ((with_reducible have k2 := Lib.hid (k1.out.up hb2)); have e1b := Lib.hid (e1.out.below hb2)); have e2 := Lib.hid hE2; have z20 := k2.out.bel.size; clear hE2 hb2)) | (go_at_call 28; ((with_reducible refine (by_ex s1 s2 total (f p) x1 x2 l1 l2 c1 c2 _ e1b.out e2.out (small64 t1 t2) (small64 fp1 fp2)).mono ?_); rintro e w30 ⟨s3, x3, l3, c3, rfl, hE3, hb3⟩; ((with_reducible have k3 := Lib.hid (k2.out.up hb3))); have e3 := Lib.hid hE3; have z30 := k3.out.bel.size; clear hE3 hb3)) | (go_at_call 22; ((with_reducible refine (of_any whole _ ww1 hw2).mono ?_); rintro e w40 ⟨s4, x4, l4, c4, rfl, hE4, hb4⟩; ((with_reducible have k4 := Lib.hid (k3.out.up hb4)); have e3b := Lib.hid (e3.out.below hb4)); have e4 := Lib.hid hE4; have z40 := k4.out.bel.size; clear hE4 hb4)) | (go_at_call 27; ((with_reducible refine (over_any s3 s4 (total * f p) whole x3 x4 l3 l4 c3 c4 _ e3b.out e4.out (lim2_mul HTa.out HFa.out.1 HFa.out.2) hw hw2).mono ?_); rintro e w50 ⟨s5, x5, l5, c5, rfl, hE5, hb5⟩; ((with_reducible have k5 := Lib.hid (k4.out.up hb5))); obtain ⟨g0, g1, g2, g3⟩ := k5.out.box.1; have e5 := Lib.hid hE5; have z50 := k5.out.bel.size; clear hE5 hb5)))
              all_goals
                go_wp2_with fail
                go_meet
                exact ⟨_, _, _, _, by rw [stepP_succ]; exact k5.out.put hbn e5.out⟩
          case rest =>
            obtain ⟨s, x, l, c, hT⟩ := hcut
            have HS := Lib.hid hT
            clear hT HS0
            have hidx : i < j := hij
            have c1 := HS.out.row i hidx
            obtain ⟨fp1, fp2⟩ := HF.out i
            have HFa : Hid (0 ≤ f i ∧ Am (f i)) := ⟨HRi.out.pos i hidx, fp1, fp2⟩
            have hbl2 : w.heap.size ≤ wc.heap.size := HS.out.bel.size
            have hqc : ql < wc.heap.size := HS.out.box.1.lt
            go_upto_region 17 with fail
            go_cut [12] (fun s12 wx => ∃ qh s' x' l' c', s12 = .pointer (some ⟨qh, 0, none⟩) ∧ T2 w B i b off j ql u9 f (stepV total f whole) (stepP total f whole i) s x l c wx ∧ Box wx qh s' x' l' c' (stepP total f whole (i + 1)))
            case first =>
              go_region_held3 (fun w' => w'.cell? ⟨b, off + i, none⟩ = some (.int .i64 (f i)))
                ((change SQ b (off + i) (.int .i64 (f i)) _; with_reducible (first | exact HS.out.drew.sq hidx | exact k1.out.sq hidx | exact k2.out.sq hidx | exact k3.out.sq hidx | exact k4.out.sq hidx | exact k5.out.sq hidx | exact (HS.out.alloc _).drew.sq hidx | exact (k1.out.alloc _).sq hidx | exact (k2.out.alloc _).sq hidx | exact (k3.out.alloc _).sq hidx | exact (k4.out.alloc _).sq hidx | exact (k5.out.alloc _).sq hidx | exact ((k5.out.sq hidx).set (by omega)).set (by omega) | exact (k5.out.sq hidx).set (by omega))))
                (first | (go_at_call 22; ((with_reducible refine (of_any total _ t1 t2).mono ?_); rintro e w10 ⟨s1, x1, l1, c1, rfl, hE1, hb1⟩; (first | ((with_reducible have k1 := Lib.hid (HS.out.drew.up hb1))) | ((with_reducible have k1 := Lib.hid ((HS.out.alloc _).drew.up hb1)); ((with_reducible have n1 := Lib.hid ((Res.start _).drew.down hb1)); obtain ⟨g0, g1, g2, g3⟩ := n1.out.1))); have e1 := Lib.hid hE1; have z10 := k1.out.bel.size; clear hE1 hb1)) | (go_at_call 22; ((with_reducible refine (of_any (f i) _ fp1 fp2).mono ?_); rintro e w20 ⟨s2, x2, l2, c2, rfl, hE2, hb2⟩; (first | ((with_reducible have k2 := Lib.hid (k1.out.up hb2)); have e1b := Lib.hid (e1.out.below hb2); (try ((with_reducible have n2 := Lib.hid (n1.out.down hb2)); obtain ⟨g0, g1, g2, g3⟩ := n2.out.1))) | ((with_reducible have k2 := Lib.hid ((k1.out.alloc _).up hb2)); have e1b := Lib.hid ((e1.out.alloc _).below hb2); ((with_reducible have n2 := Lib.hid ((Res.start _).down hb2)); obtain ⟨g0, g1, g2, g3⟩ := n2.out.1))); have e2 := Lib.hid hE2; have z20 := k2.out.bel.size; clear hE2 hb2)) | (go_at_call 28; ((first | (with_reducible refine (by_ex s1 s2 total (f i) x1 x2 l1 l2 c1 c2 _ e1b.out e2.out (small64 t1 t2) (small64 fp1 fp2)).mono ?_) | (with_reducible refine (by_ex s1 s2 total (f i) x1 x2 l1 l2 c1 c2 _ (e1b.out.alloc _) (e2.out.alloc _) (small64 t1 t2) (small64 fp1 fp2)).mono ?_)); rintro e w30 ⟨s3, x3, l3, c3, rfl, hE3, hb3⟩; (first | ((with_reducible have k3 := Lib.hid (k2.out.up hb3)); (try ((with_reducible have n3 := Lib.hid (n2.out.down hb3)); obtain ⟨g0, g1, g2, g3⟩ := n3.out.1))) | ((with_reducible have k3 := Lib.hid ((k2.out.alloc _).up hb3)); ((with_reducible have n3 := Lib.hid ((Res.start _).down hb3)); obtain ⟨g0, g1, g2, g3⟩ := n3.out.1))); have e3 := Lib.hid hE3; have z30 := k3.out.bel.size; clear hE3 hb3)) | (go_at_call 22; ((with_reducible refine (of_any whole _ ww1 hw2).mono ?_); rintro e w40 ⟨s4, x4, l4, c4, rfl, hE4, hb4⟩; (first | ((with_reducible have k4 := Lib.hid (k3.out.up hb4)); have e3b := Lib.hid (e3.out.below hb4); (try ((with_reducible have n4 := Lib.hid (n3.out.down hb4)); obtain ⟨g0, g1, g2, g3⟩ := n4.out.1))) | ((with_reducible have k4 := Lib.hid ((k3.out.alloc _).up hb4)); have e3b := Lib.hid ((e3.out.alloc _).below hb4); ((with_reducible have n4 := Lib.hid ((Res.start _).down hb4)); obtain ⟨g0, g1, g2, g3⟩ := n4.out.1))); have e4 := Lib.hid hE4; have z40 := k4.out.bel.size; clear hE4 hb4)) | (go_at_call 27; ((first | (with_reducible refine (over_any s3 s4 (total * f i) whole x3 x4 l3 l4 c3 c4 _ e3b.out e4.out (lim2_mul HTa.out HFa.out.1 HFa.out.2) hw hw2).mono ?_) | (with_reducible refine (over_any s3 s4 (total * f i) whole x3 x4 l3 l4 c3 c4 _ (e3b.out.alloc _) (e4.out.alloc _) (lim2_mul HTa.out HFa.out.1 HFa.out.2) hw hw2).mono ?_)); rintro e w50 ⟨s5, x5, l5, c5, rfl, hE5, hb5⟩; (first | ((with_reducible have k5 := Lib.hid (k4.out.up hb5)); (try ((with_reducible have n5 := Lib.hid (n4.out.down hb5)); obtain ⟨g0, g1, g2, g3⟩ := n5.out.1))) | ((with_reducible have k5 := Lib.hid ((k4.out.alloc _).up hb5)); ((with_reducible have n5 := Lib.hid ((Res.start _).down hb5)); obtain ⟨g0, g1, g2, g3⟩ := n5.out.1))); have e5 := Lib.hid hE5; have z50 := k5.out.bel.size; clear hE5 hb5)))
              all_goals
                go_wp2_with fail
                go_meet
                have y1 := k1.out.box.1.lt; have y2 := k2.out.box.1.lt; have y3 := k3.out.box.1.lt; have y4 := k4.out.box.1.lt; have y5 := k5.out.box.1.lt
                first | exact ⟨_, _, _, _, _, rfl, k5.out.alloc _, by rw [stepP_succ]; exact Box.new _ e5.out⟩ | exact ⟨_, _, _, _, _, rfl, k5.out.other n5.out.2 (by omega) (by omega) (by omega) _ _, by rw [stepP_succ]; exact Box.res_put n5.out e5.out⟩
            case rest =>
              obtain ⟨qh, s', x', l', c', rfl, hT, hX⟩ := hcut
              have HT := Lib.hid hT
              have HX := Lib.hid hX
              clear hT hX HS c1 hbl2 hqc
              obtain ⟨m0, m1, _, _⟩ := HT.out.box.1
              obtain ⟨h0, h1, _, _⟩ := HX.out.1
              have HA1 := Lib.hid (am_within (stepP_in (total := total) hw HRi.out (k := i) (by omega)) t1 t2)
              have HA2 := Lib.hid (am_within (stepP_in (total := total) hw HRi.out (k := i + 1) (by omega)) t1 t2)
              have HA3 := Lib.hid (am_within (stepV_in (total := total) hw HRi.out hidx) t1 t2)
              go_wp2_with fail
              refine (less_ex s' s (stepP total f whole (i + 1)) (stepP total f whole i) x' x l' l c' c _ HX.out.2.2 HT.out.box.2.2 (small64 HA2.out.1 HA2.out.2) (small64 HA1.out.1 HA1.out.2)).mono ?_
              rintro e w7 ⟨s7, x7, n7, p7, rfl, hE7, hb7⟩
              have HT7 := Lib.hid (HT.out.up hb7)
              have E7 := Lib.hid hE7
              clear hE7 hb7 HT HX m0 m1 h0 h1
              go_wp2_with fail
              refine (fit_any s7 (stepV total f whole i) x7 n7 p7 _ E7.out (small64 HA3.out.1 HA3.out.2)).mono ?_
              rintro e w8 ⟨rfl, hb8⟩
              rw [(tell_in HA3.out.1 HA3.out.2).1, (tell_in HA3.out.1 HA3.out.2).2]
              have HT8 := Lib.hid (HT7.out.up hb8)
              clear hb8 HT7 E7
              obtain ⟨sv, hsv⟩ : ∃ sv, sv = stepV total f whole i := ⟨_, rfl⟩
              rw [← hsv]
              have HSV := Lib.hid hsv
              clear hsv
              have hown := HT8.out.own
              have hBs := HT8.out.bs
              have HST : Hid (∀ (vo' : Value) (w1 : World), w1.ownsRow B 2 1 vo' (i + 1) (valsTo (stepV total f whole) i ++ [.int .i64 sv]) → (w8.alloc (.cells #[.int .i64 sv] 2)).grownBy w1 u9.ownBlock → Below w.heap.size w w1 ∧ B ≤ w1.heap.size ∧ w1.ownsRow B 2 1 vo' (i + 1) (valsTo (stepV total f whole) (i + 1))) := fun vo' w1 g1 g2 => by
                have hA := HT8.out.alloc (.cells #[.int .i64 sv] 2)
                refine ⟨hA.bel.grown g2 hA.bel.size (fun g hg => ?_), Nat.le_trans hA.bs g2.size, by rw [valsTo_step, ← HSV.out]; exact g1⟩
                have := (owns_lt HT8.out.own g hg).1; omega
              go_wp2_with (first | (at_builtin; refine wpList_append_own _ rfl _ _ 22 rfl B 2 i0 (.int .i64 0) 1 8 Try.underlying22 hi hz0 hz1 hz2 rfl (by decide) _ _ _ rfl (World.ownsRow.alloc hown _) ⟨w8.heap.size, 0, none⟩ 1 1 [.int .i64 sv] rfl rfl (one_news _ _ _) (one_cell _) ?c3 ?c4 ?c5 ?_))
              case c3 => unfold maxLen; omega
              case c4 => omega
              case c5 => first | omega | (simp; omega)
              intro vo' w9 hown' hgrow _
              have HL := Lib.hid (HST.out vo' w9 hown' hgrow)
              clear hown' hgrow hown HST HT8 hBs
              go_wp2_with fail
              go_roundw
              case rel => exact ⟨i + 1, by omega, by go_num, HL.out.1, HL.out.2.1, HL.out.2.2, (fun q => by omega)⟩
              case measure => simp [intOf]; omega
        · have hie : i = j := by omega
          subst hie
          go_wp2_with fail
          go_ret2
          unfold SPost
          rw [HSE.out]
          by_cases h0 : i = 0
          · subst h0
            have e := HV0.out rfl
            subst e
            exact ⟨HB.out, .inr ⟨rfl, B, 0, rfl, b0, fun t ht => by omega⟩⟩
          · obtain ⟨g, cg, rfl, hg, hints⟩ := vals_ints (by omega) HO.out
            exact ⟨HB.out, .inr ⟨rfl, g, cg, rfl, by omega, hints⟩⟩
end Go.Proofs.Ytiiamiaebhkhaaa
