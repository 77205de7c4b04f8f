/- Contract: slices.symMergeCmpFunc. -/
import Derived.Test.YtklaonoekmhakaaGreatSoSym
namespace Go.Proofs.YtklaonoekmhakaaGreat
open Go.RowKit
variable {w W : World} {b n rb g : Nat} {K f : Nat → Int}

/-- two rows in order become one, up to a length -/
def SymOk (w : World) (b n rb g : Nat) (K : Nat → Int) (cap q : Nat) : Prop :=
  ∀ (a m c : Nat) (f : Nat → Int) (W : World), c - a ≤ q → a < m → m < c → c ≤ n → SW w b n rb g K f W → Up (key n K) f a m → Up (key n K) f m c → (∀ s t, a ≤ s → s < m → m ≤ t → t < c → f s < f t) →
    Calls Tryz.prog 161 #[.slice (some ⟨b, 0, none⟩) n cap, .int .i64 a, .int .i64 m, .int .i64 c, .func (.func 153) #[] #[.pointer (some ⟨rb, 0, none⟩)]] W (Merged w b n rb g K f a c)

set_option maxRecDepth 1000000 in
set_option maxHeartbeats 4000000 in
theorem sym_step (cap q : Nat) (ih : SymOk w b n rb g K cap q) (HS : SW w b n rb g K f W) (a m c : Nat) (hq : c - a ≤ q + 1) (ha : a < m) (hc : m < c) (hn : m - a ≠ 1) (hn2 : c - m ≠ 1) (h2 : c ≤ n) (u : Up (key n K) f a m) (v : Up (key n K) f m c) (o : ∀ s t, a ≤ s → s < m → m ≤ t → t < c → f s < f t) :
    Calls Tryz.prog 161 #[.slice (some ⟨b, 0, none⟩) n cap, .int .i64 a, .int .i64 m, .int .i64 c, .func (.func 153) #[] #[.pointer (some ⟨rb, 0, none⟩)]] W (Merged w b n rb g K f a c) := by
  have H0 := Lib.hid HS
  have HO := Lib.hid o
  have HU := Lib.hid u
  have HV := Lib.hid v
  have IH := Lib.hid ih
  have HQ := Lib.hid hq
  have hsm := HS.small
  have BF := Lib.hid (beg_fin ha hc)
  obtain ⟨d, hd⟩ : ∃ d, d = m - a := ⟨_, rfl⟩
  obtain ⟨d2, hd2⟩ : ∃ d2, d2 = c - m := ⟨_, rfl⟩
  have i0 : IntKind.i64.wrap ((c : Int) - (m : Int)) = (d2 : Int) := by rw [IntKind.wrap_i64]; omega
  have i9 : IntKind.i64.wrap ((m : Int) - (a : Int)) = (d : Int) := by rw [IntKind.wrap_i64]; omega
  have i8 : ((d : Int) == 1) = false := by simp; omega
  have i7 : ((d2 : Int) == 1) = false := by simp; omega
  obtain ⟨md, hmd⟩ : ∃ md, md = (a + c) / 2 := ⟨_, rfl⟩
  obtain ⟨nn, hnn⟩ : ∃ nn, nn = md + m := ⟨_, rfl⟩
  obtain ⟨pp, hpp⟩ : ∃ pp, pp = nn - 1 := ⟨_, rfl⟩
  obtain ⟨s0, hs0⟩ : ∃ s0, s0 = beg a m c := ⟨_, rfl⟩
  obtain ⟨r0, hr0⟩ : ∃ r0, r0 = fin a m c := ⟨_, rfl⟩
  have j1 : IntKind.i64.wrap ((a : Int) + (c : Int)) = (a : Int) + (c : Int) := by rw [IntKind.wrap_i64]; omega
  have j2 : IntKind.u64.wrap ((a : Int) + (c : Int)) = (a : Int) + (c : Int) := by simp [IntKind.wrap, IntKind.bits, IntKind.signed]; omega
  have j3 : IntKind.i64.wrap (((a : Int) + (c : Int)) / 2) = (md : Int) := by rw [IntKind.wrap_i64]; omega
  have j4 : IntKind.i64.wrap ((md : Int) + (m : Int)) = (nn : Int) := by rw [IntKind.wrap_i64]; omega
  have j5 : IntKind.i64.wrap ((nn : Int) - 1) = (pp : Int) := by rw [IntKind.wrap_i64]; omega
  have HB : Hid (pp = (a + c) / 2 + m - 1 ∧ nn = (a + c) / 2 + m ∧ md = (a + c) / 2 ∧ s0 = beg a m c ∧ r0 = fin a m c) := by
    refine ⟨by omega, by omega, hmd, hs0, hr0⟩
  have hnn2 : nn ≤ 2000000 := by omega
  rcases Nat.lt_or_ge md m with hx | hx
  · have j6 : IntKind.i64.wrap ((nn : Int) - (c : Int)) = (s0 : Int) := by rw [IntKind.wrap_i64, hs0]; unfold beg; rw [if_pos (by omega)]; omega
    have j7 : r0 = md := by rw [hr0]; unfold fin; rw [if_pos (by omega)]; omega
    have hxz : (md : Int) < (m : Int) := by omega
    subst j7
    clear HS o u v ih hq hn hn2 hd hd2 hmd hnn hpp hs0 hr0
    go_enter Tryz.func161, Tryz.ntmps161
    go_wp2_with fail
    clear i0 i9 i8 i7 j1 j2 j3 j4 j5 j6
    go_loopw [20, 21] (fun vs vr wr => ∃ s r : Nat, vs = .int .i64 s ∧ vr = .int .i64 r ∧ s ≤ r ∧ SW w b n rb g K f wr ∧ Hid (Half (key n K) f a m c s r)) (fun vs vr _ => (intOf vr).toNat - (intOf vs).toNat)
    case atStart => exact ⟨s0, r0, rfl, rfl, (by have := HB.out; have := BF.out; omega), H0.out, (by have q := half_start (h := key n K) (f := f) ha hc; rw [← HB.out.2.2.2.1, ← HB.out.2.2.2.2] at q; exact q)⟩
    case round =>
      obtain ⟨s, r, rfl, rfl, sr, hT, HH⟩ := hrel
      have HT := Lib.hid hT
      have hsz : s + r ≤ 2000000 := by have := HH.out.r0; have := BF.out; omega
      have hrm : r ≤ m := by have := HH.out.r0; have := BF.out; omega
      clear hT
      by_cases hlt : s < r
      · obtain ⟨k, hk⟩ : ∃ k, k = (s + r) / 2 := ⟨_, rfl⟩
        have sk : s ≤ k := by omega
        have kr : k < r := by omega
        have i1 : IntKind.i64.wrap ((s : Int) + (r : Int)) = (s : Int) + (r : Int) := by rw [IntKind.wrap_i64]; omega
        have i2 : IntKind.u64.wrap ((s : Int) + (r : Int)) = (s : Int) + (r : Int) := by simp [IntKind.wrap, IntKind.bits, IntKind.signed]; omega
        have i3 : IntKind.i64.wrap (((s : Int) + (r : Int)) / 2) = (k : Int) := by rw [IntKind.wrap_i64]; omega
        obtain ⟨e, he⟩ : ∃ e, e = pp - k := ⟨_, rfl⟩
        have hes : m ≤ e ∧ e < c ∧ k + e = pp ∧ a ≤ k := by have := BF.out; have := HB.out; have := HH.out.s0; have := HH.out.r0; omega
        have i4 : IntKind.i64.wrap ((pp : Int) - (k : Int)) = (e : Int) := by rw [IntKind.wrap_i64]; omega
        have HE : Hid (e = (a + c) / 2 + m - 1 - k) := by have := HB.out; show e = _; omega
        have c1 := HT.out.cell (t := e) (by omega)
        have c2 := HT.out.cell (t := k) (by omega)
        have HC := Lib.hid (fun q => HT.out.cmp (s := e) (t := k) (by omega) (by omega) q)
        have F1 := Lib.hid (HT.out.fit e (by omega))
        have F2 := Lib.hid (HT.out.fit k (by omega))
        have a1 : (e : Int) < (n : Int) := by omega
        have a2 : (k : Int) < (n : Int) := by omega
        have HR := Lib.hid hes
        have hltz : (s : Int) < (r : Int) := by omega
        clear hk he hes
        by_cases hcv : cmpV (K (f k).toNat) (K (f e).toNat) < 0
        · have hcb : decide (cmpV (K (f k).toNat) (K (f e).toNat) < 0) = true := by simp [hcv]
          go_wp2_with fail
          go_quiet (first | (go_at_call 153; with_reducible exact HC.out _))
          have HT2 := Lib.hid (HT.out.drewN nq)
          clear HT HC c1 c2
          obtain ⟨Wq, hWq⟩ : ∃ Wq, Wq = wr.drewN nq := ⟨_, rfl⟩
          rw [← hWq] at HT2 ⊢
          clear hWq
          go_wp2_with fail
          go_roundw
          case rel =>
            refine ⟨s, k, rfl, by go_num, sk, HT2.out, HH.out.down ha hc HU.out HV.out sk kr ?_⟩
            rw [← HE.out]
            have := HR.out
            exact (key_lt (K := K) F2.out.1 (HO.out k e (by omega) (by omega) (by omega) (by omega)) F1.out.2).2 (cmpV_neg.1 hcv)
          case measure => simp [intOf]; omega
        · have hcb : decide (cmpV (K (f k).toNat) (K (f e).toNat) < 0) = false := by simp [hcv]
          have hcc : 0 ≤ cmpV (K (f k).toNat) (K (f e).toNat) := by omega
          go_wp2_with fail
          go_quiet (first | (go_at_call 153; with_reducible exact HC.out _))
          have HT2 := Lib.hid (HT.out.drewN nq)
          clear HT HC c1 c2
          obtain ⟨Wq, hWq⟩ : ∃ Wq, Wq = wr.drewN nq := ⟨_, rfl⟩
          rw [← hWq] at HT2 ⊢
          clear hWq
          go_wp2_with fail
          go_roundw
          case rel =>
            refine ⟨k + 1, r, by go_num, rfl, by omega, HT2.out, HH.out.up ha hc HU.out HV.out sk kr ?_⟩
            rw [← HE.out]
            have := HR.out
            exact (key_gt (K := K) F2.out.1 (HO.out k e (by omega) (by omega) (by omega) (by omega)) F1.out.2).2 (fun q => by have := cmpV_neg.2 q; omega)
          case measure => simp [intOf]; omega
      · have hsr : s = r := by omega
        subst hsr
        clear hlt sr
        obtain ⟨en, hen⟩ : ∃ en, en = nn - s := ⟨_, rfl⟩
        have hes : m ≤ en ∧ en ≤ c ∧ s + en = nn ∧ a ≤ s ∧ s ≤ r0 ∧ r0 ≤ en ∧ a < r0 ∧ r0 < c := by have := BF.out; have := HB.out; have := HH.out.s0; have := HH.out.r0; omega
        have i4 : IntKind.i64.wrap ((nn : Int) - (s : Int)) = (en : Int) := by rw [IntKind.wrap_i64]; omega
        have HE : Hid (en = (a + c) / 2 + m - s) := by have := HB.out; show en = _; omega
        have HR := Lib.hid hes
        have HHv : Hid (Halved (key n K) (rot f s m en) a s r0 en c) := by show Halved _ _ _ _ _ _ _; rw [HE.out, HB.out.2.2.1]; exact HH.out.halved ha hc HU.out HV.out HO.out
        have e1 : nn = r0 + m := by have := HB.out; omega
        have E1 := Lib.hid e1
        have HMR : Hid (Mix n s en f (rot f s m en)) := mix_rot' f hrm (by omega) (by omega)
        obtain ⟨G, hG⟩ : ∃ G, G = rot f s m en := ⟨_, rfl⟩
        rw [← hG] at HHv HMR
        have HG := Lib.hid hG
        clear hG hen
        have hsz : ¬ (s : Int) < (s : Int) := by omega
        by_cases P : s < m
        · by_cases Q : s < r0
          · by_cases R : a < s
            · by_cases T : en < c
              · have z1 :  (s : Int) < (m : Int) := by omega
                have z2 :  (m : Int) < (en : Int) := by omega
                have z3 :  (a : Int) < (s : Int) := by omega
                have z4 :  (s : Int) < (r0 : Int) := by omega
                have z5 :  (r0 : Int) < (en : Int) := by omega
                have z6 :  (en : Int) < (c : Int) := by omega
                clear hes e1
                go_wp2_with fail
                refine (rot_any HT.out cap s m en _ (by have := HR.out; have := E1.out; omega) (by have := HR.out; have := E1.out; omega) (by have := HR.out; have := E1.out; omega)).mono ?_
                rintro e w1 ⟨rfl, hT1⟩
                rw [← HG.out] at hT1
                have H1 := Lib.hid hT1
                clear hT1
                go_wp2_with fail
                refine (IH.out a s r0 G _ (by have := HQ.out; have := HR.out; have := E1.out; omega) (by have := HR.out; have := E1.out; omega) (by have := HR.out; have := E1.out; omega) (by have := HR.out; have := E1.out; omega) H1.out HHv.out.u1 HHv.out.u2 HHv.out.c1).mono ?_
                rintro e w2 ⟨rfl, G1, hT2, m1, u1⟩
                have H2 := Lib.hid hT2
                have M1 := Lib.hid m1
                have U1 := Lib.hid u1
                clear hT2 m1 u1
                go_wp2_with fail
                refine (IH.out r0 en c G1 _ (by have := HQ.out; have := HR.out; have := E1.out; omega) (by have := HR.out; have := E1.out; omega) (by have := HR.out; have := E1.out; omega) h2 H2.out (HHv.out.u3.same fun t t1 t2 => M1.out.out t (by have := HR.out; have := E1.out; omega)) (HHv.out.u4.same fun t t1 t2 => M1.out.out t (by have := HR.out; have := E1.out; omega)) (fun x t x1 x2 t1 t2 => by rw [M1.out.out x (by have := HR.out; have := E1.out; omega), M1.out.out t (by have := HR.out; have := E1.out; omega)]; exact HHv.out.c2 x t x1 x2 t1 t2)).mono ?_
                rintro e w3 ⟨rfl, G2, hT3, m2, u2⟩
                have H3 := Lib.hid hT3
                have M2 := Lib.hid m2
                have U2 := Lib.hid u2
                clear hT3 m2 u2
                go_wp2_with fail
                go_end0
                exact ⟨rfl, G2, H3.out, ((HMR.out.wide (by have := HR.out; have := E1.out; omega) (by have := HR.out; have := E1.out; omega)).trans (M1.out.wide (Nat.le_refl _) (by have := HR.out; have := E1.out; omega))).trans (M2.out.wide (by have := HR.out; have := E1.out; omega) (Nat.le_refl _)), HHv.out.done M1.out U1.out M2.out U2.out⟩
              · have z1 :  (s : Int) < (m : Int) := by omega
                have z2 :  (m : Int) < (en : Int) := by omega
                have z3 :  (a : Int) < (s : Int) := by omega
                have z4 :  (s : Int) < (r0 : Int) := by omega
                have z5 :  (r0 : Int) < (en : Int) := by omega
                have z6 : ¬ (en : Int) < (c : Int) := by omega
                clear hes e1
                go_wp2_with fail
                refine (rot_any HT.out cap s m en _ (by have := HR.out; have := E1.out; omega) (by have := HR.out; have := E1.out; omega) (by have := HR.out; have := E1.out; omega)).mono ?_
                rintro e w1 ⟨rfl, hT1⟩
                rw [← HG.out] at hT1
                have H1 := Lib.hid hT1
                clear hT1
                go_wp2_with fail
                refine (IH.out a s r0 G _ (by have := HQ.out; have := HR.out; have := E1.out; omega) (by have := HR.out; have := E1.out; omega) (by have := HR.out; have := E1.out; omega) (by have := HR.out; have := E1.out; omega) H1.out HHv.out.u1 HHv.out.u2 HHv.out.c1).mono ?_
                rintro e w2 ⟨rfl, G1, hT2, m1, u1⟩
                have H2 := Lib.hid hT2
                have M1 := Lib.hid m1
                have U1 := Lib.hid u1
                clear hT2 m1 u1
                obtain ⟨G2, hG2⟩ : ∃ G2, G2 = G1 := ⟨_, rfl⟩
                have H3 : Hid (SW w b n rb g K G2 w2) := by rw [hG2]; exact H2.out
                have M2 : Hid (Mix n r0 c G1 G2) := by rw [hG2]; exact Mix.refl _ _ _ _
                have U2 : Hid (Up (key n K) G2 r0 c) := by rw [hG2]; exact (HHv.out.u3.sub (Nat.le_refl _) (by have := HR.out; have := E1.out; omega)).same fun t t1 t2 => M1.out.out t (by have := HR.out; have := E1.out; omega)
                clear hG2
                go_wp2_with fail
                go_end0
                exact ⟨rfl, G2, H3.out, ((HMR.out.wide (by have := HR.out; have := E1.out; omega) (by have := HR.out; have := E1.out; omega)).trans (M1.out.wide (Nat.le_refl _) (by have := HR.out; have := E1.out; omega))).trans (M2.out.wide (by have := HR.out; have := E1.out; omega) (Nat.le_refl _)), HHv.out.done M1.out U1.out M2.out U2.out⟩
            · by_cases T : en < c
              · have z1 :  (s : Int) < (m : Int) := by omega
                have z2 :  (m : Int) < (en : Int) := by omega
                have z3 : ¬ (a : Int) < (s : Int) := by omega
                have z4 :  (s : Int) < (r0 : Int) := by omega
                have z5 :  (r0 : Int) < (en : Int) := by omega
                have z6 :  (en : Int) < (c : Int) := by omega
                clear hes e1
                go_wp2_with fail
                refine (rot_any HT.out cap s m en _ (by have := HR.out; have := E1.out; omega) (by have := HR.out; have := E1.out; omega) (by have := HR.out; have := E1.out; omega)).mono ?_
                rintro e w1 ⟨rfl, hT1⟩
                rw [← HG.out] at hT1
                have H1 := Lib.hid hT1
                clear hT1
                obtain ⟨G1, hG1⟩ : ∃ G1, G1 = G := ⟨_, rfl⟩
                have H2 : Hid (SW w b n rb g K G1 w1) := by rw [hG1]; exact H1.out
                have M1 : Hid (Mix n a r0 G G1) := by rw [hG1]; exact Mix.refl _ _ _ _
                have U1 : Hid (Up (key n K) G1 a r0) := by rw [hG1]; exact HHv.out.u2.sub (by have := HR.out; have := E1.out; omega) (Nat.le_refl _)
                clear hG1
                go_wp2_with fail
                refine (IH.out r0 en c G1 _ (by have := HQ.out; have := HR.out; have := E1.out; omega) (by have := HR.out; have := E1.out; omega) (by have := HR.out; have := E1.out; omega) h2 H2.out (HHv.out.u3.same fun t t1 t2 => M1.out.out t (by have := HR.out; have := E1.out; omega)) (HHv.out.u4.same fun t t1 t2 => M1.out.out t (by have := HR.out; have := E1.out; omega)) (fun x t x1 x2 t1 t2 => by rw [M1.out.out x (by have := HR.out; have := E1.out; omega), M1.out.out t (by have := HR.out; have := E1.out; omega)]; exact HHv.out.c2 x t x1 x2 t1 t2)).mono ?_
                rintro e w3 ⟨rfl, G2, hT3, m2, u2⟩
                have H3 := Lib.hid hT3
                have M2 := Lib.hid m2
                have U2 := Lib.hid u2
                clear hT3 m2 u2
                go_wp2_with fail
                go_end0
                exact ⟨rfl, G2, H3.out, ((HMR.out.wide (by have := HR.out; have := E1.out; omega) (by have := HR.out; have := E1.out; omega)).trans (M1.out.wide (Nat.le_refl _) (by have := HR.out; have := E1.out; omega))).trans (M2.out.wide (by have := HR.out; have := E1.out; omega) (Nat.le_refl _)), HHv.out.done M1.out U1.out M2.out U2.out⟩
              · have z1 :  (s : Int) < (m : Int) := by omega
                have z2 :  (m : Int) < (en : Int) := by omega
                have z3 : ¬ (a : Int) < (s : Int) := by omega
                have z4 :  (s : Int) < (r0 : Int) := by omega
                have z5 :  (r0 : Int) < (en : Int) := by omega
                have z6 : ¬ (en : Int) < (c : Int) := by omega
                clear hes e1
                go_wp2_with fail
                refine (rot_any HT.out cap s m en _ (by have := HR.out; have := E1.out; omega) (by have := HR.out; have := E1.out; omega) (by have := HR.out; have := E1.out; omega)).mono ?_
                rintro e w1 ⟨rfl, hT1⟩
                rw [← HG.out] at hT1
                have H1 := Lib.hid hT1
                clear hT1
                obtain ⟨G1, hG1⟩ : ∃ G1, G1 = G := ⟨_, rfl⟩
                have H2 : Hid (SW w b n rb g K G1 w1) := by rw [hG1]; exact H1.out
                have M1 : Hid (Mix n a r0 G G1) := by rw [hG1]; exact Mix.refl _ _ _ _
                have U1 : Hid (Up (key n K) G1 a r0) := by rw [hG1]; exact HHv.out.u2.sub (by have := HR.out; have := E1.out; omega) (Nat.le_refl _)
                clear hG1
                obtain ⟨G2, hG2⟩ : ∃ G2, G2 = G1 := ⟨_, rfl⟩
                have H3 : Hid (SW w b n rb g K G2 w1) := by rw [hG2]; exact H2.out
                have M2 : Hid (Mix n r0 c G1 G2) := by rw [hG2]; exact Mix.refl _ _ _ _
                have U2 : Hid (Up (key n K) G2 r0 c) := by rw [hG2]; exact (HHv.out.u3.sub (Nat.le_refl _) (by have := HR.out; have := E1.out; omega)).same fun t t1 t2 => M1.out.out t (by have := HR.out; have := E1.out; omega)
                clear hG2
                go_wp2_with fail
                go_end0
                exact ⟨rfl, G2, H3.out, ((HMR.out.wide (by have := HR.out; have := E1.out; omega) (by have := HR.out; have := E1.out; omega)).trans (M1.out.wide (Nat.le_refl _) (by have := HR.out; have := E1.out; omega))).trans (M2.out.wide (by have := HR.out; have := E1.out; omega) (Nat.le_refl _)), HHv.out.done M1.out U1.out M2.out U2.out⟩
          · by_cases T : en < c
            · have z1 :  (s : Int) < (m : Int) := by omega
              have z2 : ¬ (m : Int) < (en : Int) := by omega
              have z3 :  (a : Int) < (s : Int) := by omega
              have z4 : ¬ (s : Int) < (r0 : Int) := by omega
              have z5 :  (r0 : Int) < (en : Int) := by omega
              have z6 :  (en : Int) < (c : Int) := by omega
              clear hes e1
              have H1 : Hid (SW w b n rb g K G wr) := by show SW w b n rb g K G wr; rw [HG.out, rot_none f (by have := HR.out; have := E1.out; omega) (by have := HR.out; have := E1.out; omega) (by have := HR.out; have := E1.out; omega)]; exact HT.out
              obtain ⟨G1, hG1⟩ : ∃ G1, G1 = G := ⟨_, rfl⟩
              have H2 : Hid (SW w b n rb g K G1 wr) := by rw [hG1]; exact H1.out
              have M1 : Hid (Mix n a r0 G G1) := by rw [hG1]; exact Mix.refl _ _ _ _
              have U1 : Hid (Up (key n K) G1 a r0) := by rw [hG1]; exact HHv.out.u1.sub (Nat.le_refl _) (by have := HR.out; have := E1.out; omega)
              clear hG1
              go_wp2_with fail
              refine (IH.out r0 en c G1 _ (by have := HQ.out; have := HR.out; have := E1.out; omega) (by have := HR.out; have := E1.out; omega) (by have := HR.out; have := E1.out; omega) h2 H2.out (HHv.out.u3.same fun t t1 t2 => M1.out.out t (by have := HR.out; have := E1.out; omega)) (HHv.out.u4.same fun t t1 t2 => M1.out.out t (by have := HR.out; have := E1.out; omega)) (fun x t x1 x2 t1 t2 => by rw [M1.out.out x (by have := HR.out; have := E1.out; omega), M1.out.out t (by have := HR.out; have := E1.out; omega)]; exact HHv.out.c2 x t x1 x2 t1 t2)).mono ?_
              rintro e w3 ⟨rfl, G2, hT3, m2, u2⟩
              have H3 := Lib.hid hT3
              have M2 := Lib.hid m2
              have U2 := Lib.hid u2
              clear hT3 m2 u2
              go_wp2_with fail
              go_end0
              exact ⟨rfl, G2, H3.out, ((HMR.out.wide (by have := HR.out; have := E1.out; omega) (by have := HR.out; have := E1.out; omega)).trans (M1.out.wide (Nat.le_refl _) (by have := HR.out; have := E1.out; omega))).trans (M2.out.wide (by have := HR.out; have := E1.out; omega) (Nat.le_refl _)), HHv.out.done M1.out U1.out M2.out U2.out⟩
            · have z1 :  (s : Int) < (m : Int) := by omega
              have z2 : ¬ (m : Int) < (en : Int) := by omega
              have z3 :  (a : Int) < (s : Int) := by omega
              have z4 : ¬ (s : Int) < (r0 : Int) := by omega
              have z5 :  (r0 : Int) < (en : Int) := by omega
              have z6 : ¬ (en : Int) < (c : Int) := by omega
              clear hes e1
              have H1 : Hid (SW w b n rb g K G wr) := by show SW w b n rb g K G wr; rw [HG.out, rot_none f (by have := HR.out; have := E1.out; omega) (by have := HR.out; have := E1.out; omega) (by have := HR.out; have := E1.out; omega)]; exact HT.out
              obtain ⟨G1, hG1⟩ : ∃ G1, G1 = G := ⟨_, rfl⟩
              have H2 : Hid (SW w b n rb g K G1 wr) := by rw [hG1]; exact H1.out
              have M1 : Hid (Mix n a r0 G G1) := by rw [hG1]; exact Mix.refl _ _ _ _
              have U1 : Hid (Up (key n K) G1 a r0) := by rw [hG1]; exact HHv.out.u1.sub (Nat.le_refl _) (by have := HR.out; have := E1.out; omega)
              clear hG1
              obtain ⟨G2, hG2⟩ : ∃ G2, G2 = G1 := ⟨_, rfl⟩
              have H3 : Hid (SW w b n rb g K G2 wr) := by rw [hG2]; exact H2.out
              have M2 : Hid (Mix n r0 c G1 G2) := by rw [hG2]; exact Mix.refl _ _ _ _
              have U2 : Hid (Up (key n K) G2 r0 c) := by rw [hG2]; exact (HHv.out.u3.sub (Nat.le_refl _) (by have := HR.out; have := E1.out; omega)).same fun t t1 t2 => M1.out.out t (by have := HR.out; have := E1.out; omega)
              clear hG2
              go_wp2_with fail
              go_end0
              exact ⟨rfl, G2, H3.out, ((HMR.out.wide (by have := HR.out; have := E1.out; omega) (by have := HR.out; have := E1.out; omega)).trans (M1.out.wide (Nat.le_refl _) (by have := HR.out; have := E1.out; omega))).trans (M2.out.wide (by have := HR.out; have := E1.out; omega) (Nat.le_refl _)), HHv.out.done M1.out U1.out M2.out U2.out⟩
        · exfalso; omega
  · have j6 : a = s0 := by rw [hs0]; unfold beg; rw [if_neg (by omega)]
    have j7 : m = r0 := by rw [hr0]; unfold fin; rw [if_neg (by omega)]
    have hxz : ¬ (md : Int) < (m : Int) := by omega
    have J := Lib.hid (And.intro j6 j7)
    clear HS o u v ih hq hn hn2 hd hd2 hmd hnn hpp hs0 hr0 j6 j7
    go_enter Tryz.func161, Tryz.ntmps161
    go_wp2_with fail
    clear i0 i9 i8 i7 j1 j2 j3 j4 j5
    go_loopw [20, 21] (fun vs vr wr => ∃ s r : Nat, vs = .int .i64 s ∧ vr = .int .i64 r ∧ s ≤ r ∧ SW w b n rb g K f wr ∧ Hid (Half (key n K) f a m c s r)) (fun vs vr _ => (intOf vr).toNat - (intOf vs).toNat)
    case atStart => exact ⟨a, m, rfl, rfl, (by omega), H0.out, (by have q := half_start (h := key n K) (f := f) ha hc; rw [← HB.out.2.2.2.1, ← HB.out.2.2.2.2, ← J.out.1, ← J.out.2] at q; exact q)⟩
    case round =>
      obtain ⟨s, r, rfl, rfl, sr, hT, HH⟩ := hrel
      have HT := Lib.hid hT
      have hsz : s + r ≤ 2000000 := by have := HH.out.r0; have := BF.out; omega
      have hrm : r ≤ m := by have := HH.out.r0; have := BF.out; omega
      clear hT
      by_cases hlt : s < r
      · obtain ⟨k, hk⟩ : ∃ k, k = (s + r) / 2 := ⟨_, rfl⟩
        have sk : s ≤ k := by omega
        have kr : k < r := by omega
        have i1 : IntKind.i64.wrap ((s : Int) + (r : Int)) = (s : Int) + (r : Int) := by rw [IntKind.wrap_i64]; omega
        have i2 : IntKind.u64.wrap ((s : Int) + (r : Int)) = (s : Int) + (r : Int) := by simp [IntKind.wrap, IntKind.bits, IntKind.signed]; omega
        have i3 : IntKind.i64.wrap (((s : Int) + (r : Int)) / 2) = (k : Int) := by rw [IntKind.wrap_i64]; omega
        obtain ⟨e, he⟩ : ∃ e, e = pp - k := ⟨_, rfl⟩
        have hes : m ≤ e ∧ e < c ∧ k + e = pp ∧ a ≤ k := by have := BF.out; have := HB.out; have := HH.out.s0; have := HH.out.r0; omega
        have i4 : IntKind.i64.wrap ((pp : Int) - (k : Int)) = (e : Int) := by rw [IntKind.wrap_i64]; omega
        have HE : Hid (e = (a + c) / 2 + m - 1 - k) := by have := HB.out; show e = _; omega
        have c1 := HT.out.cell (t := e) (by omega)
        have c2 := HT.out.cell (t := k) (by omega)
        have HC := Lib.hid (fun q => HT.out.cmp (s := e) (t := k) (by omega) (by omega) q)
        have F1 := Lib.hid (HT.out.fit e (by omega))
        have F2 := Lib.hid (HT.out.fit k (by omega))
        have a1 : (e : Int) < (n : Int) := by omega
        have a2 : (k : Int) < (n : Int) := by omega
        have HR := Lib.hid hes
        have hltz : (s : Int) < (r : Int) := by omega
        clear hk he hes
        by_cases hcv : cmpV (K (f k).toNat) (K (f e).toNat) < 0
        · have hcb : decide (cmpV (K (f k).toNat) (K (f e).toNat) < 0) = true := by simp [hcv]
          go_wp2_with fail
          go_quiet (first | (go_at_call 153; with_reducible exact HC.out _))
          have HT2 := Lib.hid (HT.out.drewN nq)
          clear HT HC c1 c2
          obtain ⟨Wq, hWq⟩ : ∃ Wq, Wq = wr.drewN nq := ⟨_, rfl⟩
          rw [← hWq] at HT2 ⊢
          clear hWq
          go_wp2_with fail
          go_roundw
          case rel =>
            refine ⟨s, k, rfl, by go_num, sk, HT2.out, HH.out.down ha hc HU.out HV.out sk kr ?_⟩
            rw [← HE.out]
            have := HR.out
            exact (key_lt (K := K) F2.out.1 (HO.out k e (by omega) (by omega) (by omega) (by omega)) F1.out.2).2 (cmpV_neg.1 hcv)
          case measure => simp [intOf]; omega
        · have hcb : decide (cmpV (K (f k).toNat) (K (f e).toNat) < 0) = false := by simp [hcv]
          have hcc : 0 ≤ cmpV (K (f k).toNat) (K (f e).toNat) := by omega
          go_wp2_with fail
          go_quiet (first | (go_at_call 153; with_reducible exact HC.out _))
          have HT2 := Lib.hid (HT.out.drewN nq)
          clear HT HC c1 c2
          obtain ⟨Wq, hWq⟩ : ∃ Wq, Wq = wr.drewN nq := ⟨_, rfl⟩
          rw [← hWq] at HT2 ⊢
          clear hWq
          go_wp2_with fail
          go_roundw
          case rel =>
            refine ⟨k + 1, r, by go_num, rfl, by omega, HT2.out, HH.out.up ha hc HU.out HV.out sk kr ?_⟩
            rw [← HE.out]
            have := HR.out
            exact (key_gt (K := K) F2.out.1 (HO.out k e (by omega) (by omega) (by omega) (by omega)) F1.out.2).2 (fun q => by have := cmpV_neg.2 q; omega)
          case measure => simp [intOf]; omega
      · have hsr : s = r := by omega
        subst hsr
        clear hlt sr
        obtain ⟨en, hen⟩ : ∃ en, en = nn - s := ⟨_, rfl⟩
        have hes : m ≤ en ∧ en ≤ c ∧ s + en = nn ∧ a ≤ s ∧ s ≤ md ∧ md ≤ en ∧ a < md ∧ md < c := by have := BF.out; have := HB.out; have := HH.out.s0; have := HH.out.r0; omega
        have i4 : IntKind.i64.wrap ((nn : Int) - (s : Int)) = (en : Int) := by rw [IntKind.wrap_i64]; omega
        have HE : Hid (en = (a + c) / 2 + m - s) := by have := HB.out; show en = _; omega
        have HR := Lib.hid hes
        have HHv : Hid (Halved (key n K) (rot f s m en) a s md en c) := by show Halved _ _ _ _ _ _ _; rw [HE.out, HB.out.2.2.1]; exact HH.out.halved ha hc HU.out HV.out HO.out
        have e1 : nn = md + m := by have := HB.out; omega
        have E1 := Lib.hid e1
        have HMR : Hid (Mix n s en f (rot f s m en)) := mix_rot' f hrm (by omega) (by omega)
        obtain ⟨G, hG⟩ : ∃ G, G = rot f s m en := ⟨_, rfl⟩
        rw [← hG] at HHv HMR
        have HG := Lib.hid hG
        clear hG hen
        have hsz : ¬ (s : Int) < (s : Int) := by omega
        by_cases P : s < m
        · by_cases Q : s < md
          · by_cases R : a < s
            · by_cases T : en < c
              · have z1 :  (s : Int) < (m : Int) := by omega
                have z2 :  (m : Int) < (en : Int) := by omega
                have z3 :  (a : Int) < (s : Int) := by omega
                have z4 :  (s : Int) < (md : Int) := by omega
                have z5 :  (md : Int) < (en : Int) := by omega
                have z6 :  (en : Int) < (c : Int) := by omega
                clear hes e1
                go_wp2_with fail
                refine (rot_any HT.out cap s m en _ (by have := HR.out; have := E1.out; omega) (by have := HR.out; have := E1.out; omega) (by have := HR.out; have := E1.out; omega)).mono ?_
                rintro e w1 ⟨rfl, hT1⟩
                rw [← HG.out] at hT1
                have H1 := Lib.hid hT1
                clear hT1
                go_wp2_with fail
                refine (IH.out a s md G _ (by have := HQ.out; have := HR.out; have := E1.out; omega) (by have := HR.out; have := E1.out; omega) (by have := HR.out; have := E1.out; omega) (by have := HR.out; have := E1.out; omega) H1.out HHv.out.u1 HHv.out.u2 HHv.out.c1).mono ?_
                rintro e w2 ⟨rfl, G1, hT2, m1, u1⟩
                have H2 := Lib.hid hT2
                have M1 := Lib.hid m1
                have U1 := Lib.hid u1
                clear hT2 m1 u1
                go_wp2_with fail
                refine (IH.out md en c G1 _ (by have := HQ.out; have := HR.out; have := E1.out; omega) (by have := HR.out; have := E1.out; omega) (by have := HR.out; have := E1.out; omega) h2 H2.out (HHv.out.u3.same fun t t1 t2 => M1.out.out t (by have := HR.out; have := E1.out; omega)) (HHv.out.u4.same fun t t1 t2 => M1.out.out t (by have := HR.out; have := E1.out; omega)) (fun x t x1 x2 t1 t2 => by rw [M1.out.out x (by have := HR.out; have := E1.out; omega), M1.out.out t (by have := HR.out; have := E1.out; omega)]; exact HHv.out.c2 x t x1 x2 t1 t2)).mono ?_
                rintro e w3 ⟨rfl, G2, hT3, m2, u2⟩
                have H3 := Lib.hid hT3
                have M2 := Lib.hid m2
                have U2 := Lib.hid u2
                clear hT3 m2 u2
                go_wp2_with fail
                go_end0
                exact ⟨rfl, G2, H3.out, ((HMR.out.wide (by have := HR.out; have := E1.out; omega) (by have := HR.out; have := E1.out; omega)).trans (M1.out.wide (Nat.le_refl _) (by have := HR.out; have := E1.out; omega))).trans (M2.out.wide (by have := HR.out; have := E1.out; omega) (Nat.le_refl _)), HHv.out.done M1.out U1.out M2.out U2.out⟩
              · have z1 :  (s : Int) < (m : Int) := by omega
                have z2 :  (m : Int) < (en : Int) := by omega
                have z3 :  (a : Int) < (s : Int) := by omega
                have z4 :  (s : Int) < (md : Int) := by omega
                have z5 :  (md : Int) < (en : Int) := by omega
                have z6 : ¬ (en : Int) < (c : Int) := by omega
                clear hes e1
                go_wp2_with fail
                refine (rot_any HT.out cap s m en _ (by have := HR.out; have := E1.out; omega) (by have := HR.out; have := E1.out; omega) (by have := HR.out; have := E1.out; omega)).mono ?_
                rintro e w1 ⟨rfl, hT1⟩
                rw [← HG.out] at hT1
                have H1 := Lib.hid hT1
                clear hT1
                go_wp2_with fail
                refine (IH.out a s md G _ (by have := HQ.out; have := HR.out; have := E1.out; omega) (by have := HR.out; have := E1.out; omega) (by have := HR.out; have := E1.out; omega) (by have := HR.out; have := E1.out; omega) H1.out HHv.out.u1 HHv.out.u2 HHv.out.c1).mono ?_
                rintro e w2 ⟨rfl, G1, hT2, m1, u1⟩
                have H2 := Lib.hid hT2
                have M1 := Lib.hid m1
                have U1 := Lib.hid u1
                clear hT2 m1 u1
                obtain ⟨G2, hG2⟩ : ∃ G2, G2 = G1 := ⟨_, rfl⟩
                have H3 : Hid (SW w b n rb g K G2 w2) := by rw [hG2]; exact H2.out
                have M2 : Hid (Mix n md c G1 G2) := by rw [hG2]; exact Mix.refl _ _ _ _
                have U2 : Hid (Up (key n K) G2 md c) := by rw [hG2]; exact (HHv.out.u3.sub (Nat.le_refl _) (by have := HR.out; have := E1.out; omega)).same fun t t1 t2 => M1.out.out t (by have := HR.out; have := E1.out; omega)
                clear hG2
                go_wp2_with fail
                go_end0
                exact ⟨rfl, G2, H3.out, ((HMR.out.wide (by have := HR.out; have := E1.out; omega) (by have := HR.out; have := E1.out; omega)).trans (M1.out.wide (Nat.le_refl _) (by have := HR.out; have := E1.out; omega))).trans (M2.out.wide (by have := HR.out; have := E1.out; omega) (Nat.le_refl _)), HHv.out.done M1.out U1.out M2.out U2.out⟩
            · by_cases T : en < c
              · have z1 :  (s : Int) < (m : Int) := by omega
                have z2 :  (m : Int) < (en : Int) := by omega
                have z3 : ¬ (a : Int) < (s : Int) := by omega
                have z4 :  (s : Int) < (md : Int) := by omega
                have z5 :  (md : Int) < (en : Int) := by omega
                have z6 :  (en : Int) < (c : Int) := by omega
                clear hes e1
                go_wp2_with fail
                refine (rot_any HT.out cap s m en _ (by have := HR.out; have := E1.out; omega) (by have := HR.out; have := E1.out; omega) (by have := HR.out; have := E1.out; omega)).mono ?_
                rintro e w1 ⟨rfl, hT1⟩
                rw [← HG.out] at hT1
                have H1 := Lib.hid hT1
                clear hT1
                obtain ⟨G1, hG1⟩ : ∃ G1, G1 = G := ⟨_, rfl⟩
                have H2 : Hid (SW w b n rb g K G1 w1) := by rw [hG1]; exact H1.out
                have M1 : Hid (Mix n a md G G1) := by rw [hG1]; exact Mix.refl _ _ _ _
                have U1 : Hid (Up (key n K) G1 a md) := by rw [hG1]; exact HHv.out.u2.sub (by have := HR.out; have := E1.out; omega) (Nat.le_refl _)
                clear hG1
                go_wp2_with fail
                refine (IH.out md en c G1 _ (by have := HQ.out; have := HR.out; have := E1.out; omega) (by have := HR.out; have := E1.out; omega) (by have := HR.out; have := E1.out; omega) h2 H2.out (HHv.out.u3.same fun t t1 t2 => M1.out.out t (by have := HR.out; have := E1.out; omega)) (HHv.out.u4.same fun t t1 t2 => M1.out.out t (by have := HR.out; have := E1.out; omega)) (fun x t x1 x2 t1 t2 => by rw [M1.out.out x (by have := HR.out; have := E1.out; omega), M1.out.out t (by have := HR.out; have := E1.out; omega)]; exact HHv.out.c2 x t x1 x2 t1 t2)).mono ?_
                rintro e w3 ⟨rfl, G2, hT3, m2, u2⟩
                have H3 := Lib.hid hT3
                have M2 := Lib.hid m2
                have U2 := Lib.hid u2
                clear hT3 m2 u2
                go_wp2_with fail
                go_end0
                exact ⟨rfl, G2, H3.out, ((HMR.out.wide (by have := HR.out; have := E1.out; omega) (by have := HR.out; have := E1.out; omega)).trans (M1.out.wide (Nat.le_refl _) (by have := HR.out; have := E1.out; omega))).trans (M2.out.wide (by have := HR.out; have := E1.out; omega) (Nat.le_refl _)), HHv.out.done M1.out U1.out M2.out U2.out⟩
              · have z1 :  (s : Int) < (m : Int) := by omega
                have z2 :  (m : Int) < (en : Int) := by omega
                have z3 : ¬ (a : Int) < (s : Int) := by omega
                have z4 :  (s : Int) < (md : Int) := by omega
                have z5 :  (md : Int) < (en : Int) := by omega
                have z6 : ¬ (en : Int) < (c : Int) := by omega
                clear hes e1
                go_wp2_with fail
                refine (rot_any HT.out cap s m en _ (by have := HR.out; have := E1.out; omega) (by have := HR.out; have := E1.out; omega) (by have := HR.out; have := E1.out; omega)).mono ?_
                rintro e w1 ⟨rfl, hT1⟩
                rw [← HG.out] at hT1
                have H1 := Lib.hid hT1
                clear hT1
                obtain ⟨G1, hG1⟩ : ∃ G1, G1 = G := ⟨_, rfl⟩
                have H2 : Hid (SW w b n rb g K G1 w1) := by rw [hG1]; exact H1.out
                have M1 : Hid (Mix n a md G G1) := by rw [hG1]; exact Mix.refl _ _ _ _
                have U1 : Hid (Up (key n K) G1 a md) := by rw [hG1]; exact HHv.out.u2.sub (by have := HR.out; have := E1.out; omega) (Nat.le_refl _)
                clear hG1
                obtain ⟨G2, hG2⟩ : ∃ G2, G2 = G1 := ⟨_, rfl⟩
                have H3 : Hid (SW w b n rb g K G2 w1) := by rw [hG2]; exact H2.out
                have M2 : Hid (Mix n md c G1 G2) := by rw [hG2]; exact Mix.refl _ _ _ _
                have U2 : Hid (Up (key n K) G2 md c) := by rw [hG2]; exact (HHv.out.u3.sub (Nat.le_refl _) (by have := HR.out; have := E1.out; omega)).same fun t t1 t2 => M1.out.out t (by have := HR.out; have := E1.out; omega)
                clear hG2
                go_wp2_with fail
                go_end0
                exact ⟨rfl, G2, H3.out, ((HMR.out.wide (by have := HR.out; have := E1.out; omega) (by have := HR.out; have := E1.out; omega)).trans (M1.out.wide (Nat.le_refl _) (by have := HR.out; have := E1.out; omega))).trans (M2.out.wide (by have := HR.out; have := E1.out; omega) (Nat.le_refl _)), HHv.out.done M1.out U1.out M2.out U2.out⟩
          · by_cases T : en < c
            · have z1 :  (s : Int) < (m : Int) := by omega
              have z2 : ¬ (m : Int) < (en : Int) := by omega
              have z3 :  (a : Int) < (s : Int) := by omega
              have z4 : ¬ (s : Int) < (md : Int) := by omega
              have z5 :  (md : Int) < (en : Int) := by omega
              have z6 :  (en : Int) < (c : Int) := by omega
              clear hes e1
              have H1 : Hid (SW w b n rb g K G wr) := by show SW w b n rb g K G wr; rw [HG.out, rot_none f (by have := HR.out; have := E1.out; omega) (by have := HR.out; have := E1.out; omega) (by have := HR.out; have := E1.out; omega)]; exact HT.out
              obtain ⟨G1, hG1⟩ : ∃ G1, G1 = G := ⟨_, rfl⟩
              have H2 : Hid (SW w b n rb g K G1 wr) := by rw [hG1]; exact H1.out
              have M1 : Hid (Mix n a md G G1) := by rw [hG1]; exact Mix.refl _ _ _ _
              have U1 : Hid (Up (key n K) G1 a md) := by rw [hG1]; exact HHv.out.u1.sub (Nat.le_refl _) (by have := HR.out; have := E1.out; omega)
              clear hG1
              go_wp2_with fail
              refine (IH.out md en c G1 _ (by have := HQ.out; have := HR.out; have := E1.out; omega) (by have := HR.out; have := E1.out; omega) (by have := HR.out; have := E1.out; omega) h2 H2.out (HHv.out.u3.same fun t t1 t2 => M1.out.out t (by have := HR.out; have := E1.out; omega)) (HHv.out.u4.same fun t t1 t2 => M1.out.out t (by have := HR.out; have := E1.out; omega)) (fun x t x1 x2 t1 t2 => by rw [M1.out.out x (by have := HR.out; have := E1.out; omega), M1.out.out t (by have := HR.out; have := E1.out; omega)]; exact HHv.out.c2 x t x1 x2 t1 t2)).mono ?_
              rintro e w3 ⟨rfl, G2, hT3, m2, u2⟩
              have H3 := Lib.hid hT3
              have M2 := Lib.hid m2
              have U2 := Lib.hid u2
              clear hT3 m2 u2
              go_wp2_with fail
              go_end0
              exact ⟨rfl, G2, H3.out, ((HMR.out.wide (by have := HR.out; have := E1.out; omega) (by have := HR.out; have := E1.out; omega)).trans (M1.out.wide (Nat.le_refl _) (by have := HR.out; have := E1.out; omega))).trans (M2.out.wide (by have := HR.out; have := E1.out; omega) (Nat.le_refl _)), HHv.out.done M1.out U1.out M2.out U2.out⟩
            · have z1 :  (s : Int) < (m : Int) := by omega
              have z2 : ¬ (m : Int) < (en : Int) := by omega
              have z3 :  (a : Int) < (s : Int) := by omega
              have z4 : ¬ (s : Int) < (md : Int) := by omega
              have z5 :  (md : Int) < (en : Int) := by omega
              have z6 : ¬ (en : Int) < (c : Int) := by omega
              clear hes e1
              have H1 : Hid (SW w b n rb g K G wr) := by show SW w b n rb g K G wr; rw [HG.out, rot_none f (by have := HR.out; have := E1.out; omega) (by have := HR.out; have := E1.out; omega) (by have := HR.out; have := E1.out; omega)]; exact HT.out
              obtain ⟨G1, hG1⟩ : ∃ G1, G1 = G := ⟨_, rfl⟩
              have H2 : Hid (SW w b n rb g K G1 wr) := by rw [hG1]; exact H1.out
              have M1 : Hid (Mix n a md G G1) := by rw [hG1]; exact Mix.refl _ _ _ _
              have U1 : Hid (Up (key n K) G1 a md) := by rw [hG1]; exact HHv.out.u1.sub (Nat.le_refl _) (by have := HR.out; have := E1.out; omega)
              clear hG1
              obtain ⟨G2, hG2⟩ : ∃ G2, G2 = G1 := ⟨_, rfl⟩
              have H3 : Hid (SW w b n rb g K G2 wr) := by rw [hG2]; exact H2.out
              have M2 : Hid (Mix n md c G1 G2) := by rw [hG2]; exact Mix.refl _ _ _ _
              have U2 : Hid (Up (key n K) G2 md c) := by rw [hG2]; exact (HHv.out.u3.sub (Nat.le_refl _) (by have := HR.out; have := E1.out; omega)).same fun t t1 t2 => M1.out.out t (by have := HR.out; have := E1.out; omega)
              clear hG2
              go_wp2_with fail
              go_end0
              exact ⟨rfl, G2, H3.out, ((HMR.out.wide (by have := HR.out; have := E1.out; omega) (by have := HR.out; have := E1.out; omega)).trans (M1.out.wide (Nat.le_refl _) (by have := HR.out; have := E1.out; omega))).trans (M2.out.wide (by have := HR.out; have := E1.out; omega) (Nat.le_refl _)), HHv.out.done M1.out U1.out M2.out U2.out⟩
        · by_cases Q : s < md
          · have z1 : ¬ (s : Int) < (m : Int) := by omega
            have z2 :  (m : Int) < (en : Int) := by omega
            have z3 :  (a : Int) < (s : Int) := by omega
            have z4 :  (s : Int) < (md : Int) := by omega
            have z5 : ¬ (md : Int) < (en : Int) := by omega
            have z6 :  (en : Int) < (c : Int) := by omega
            clear hes e1
            have H1 : Hid (SW w b n rb g K G wr) := by show SW w b n rb g K G wr; rw [HG.out, rot_none f (by have := HR.out; have := E1.out; omega) (by have := HR.out; have := E1.out; omega) (by have := HR.out; have := E1.out; omega)]; exact HT.out
            go_wp2_with fail
            refine (IH.out a s md G _ (by have := HQ.out; have := HR.out; have := E1.out; omega) (by have := HR.out; have := E1.out; omega) (by have := HR.out; have := E1.out; omega) (by have := HR.out; have := E1.out; omega) H1.out HHv.out.u1 HHv.out.u2 HHv.out.c1).mono ?_
            rintro e w2 ⟨rfl, G1, hT2, m1, u1⟩
            have H2 := Lib.hid hT2
            have M1 := Lib.hid m1
            have U1 := Lib.hid u1
            clear hT2 m1 u1
            obtain ⟨G2, hG2⟩ : ∃ G2, G2 = G1 := ⟨_, rfl⟩
            have H3 : Hid (SW w b n rb g K G2 w2) := by rw [hG2]; exact H2.out
            have M2 : Hid (Mix n md c G1 G2) := by rw [hG2]; exact Mix.refl _ _ _ _
            have U2 : Hid (Up (key n K) G2 md c) := by rw [hG2]; exact (HHv.out.u4.sub (by have := HR.out; have := E1.out; omega) (Nat.le_refl _)).same fun t t1 t2 => M1.out.out t (by have := HR.out; have := E1.out; omega)
            clear hG2
            go_wp2_with fail
            go_end0
            exact ⟨rfl, G2, H3.out, ((HMR.out.wide (by have := HR.out; have := E1.out; omega) (by have := HR.out; have := E1.out; omega)).trans (M1.out.wide (Nat.le_refl _) (by have := HR.out; have := E1.out; omega))).trans (M2.out.wide (by have := HR.out; have := E1.out; omega) (Nat.le_refl _)), HHv.out.done M1.out U1.out M2.out U2.out⟩
          · have z1 : ¬ (s : Int) < (m : Int) := by omega
            have z2 : ¬ (m : Int) < (en : Int) := by omega
            have z3 :  (a : Int) < (s : Int) := by omega
            have z4 : ¬ (s : Int) < (md : Int) := by omega
            have z5 : ¬ (md : Int) < (en : Int) := by omega
            have z6 :  (en : Int) < (c : Int) := by omega
            clear hes e1
            have H1 : Hid (SW w b n rb g K G wr) := by show SW w b n rb g K G wr; rw [HG.out, rot_none f (by have := HR.out; have := E1.out; omega) (by have := HR.out; have := E1.out; omega) (by have := HR.out; have := E1.out; omega)]; exact HT.out
            obtain ⟨G1, hG1⟩ : ∃ G1, G1 = G := ⟨_, rfl⟩
            have H2 : Hid (SW w b n rb g K G1 wr) := by rw [hG1]; exact H1.out
            have M1 : Hid (Mix n a md G G1) := by rw [hG1]; exact Mix.refl _ _ _ _
            have U1 : Hid (Up (key n K) G1 a md) := by rw [hG1]; exact HHv.out.u1.sub (Nat.le_refl _) (by have := HR.out; have := E1.out; omega)
            clear hG1
            obtain ⟨G2, hG2⟩ : ∃ G2, G2 = G1 := ⟨_, rfl⟩
            have H3 : Hid (SW w b n rb g K G2 wr) := by rw [hG2]; exact H2.out
            have M2 : Hid (Mix n md c G1 G2) := by rw [hG2]; exact Mix.refl _ _ _ _
            have U2 : Hid (Up (key n K) G2 md c) := by rw [hG2]; exact (HHv.out.u4.sub (by have := HR.out; have := E1.out; omega) (Nat.le_refl _)).same fun t t1 t2 => M1.out.out t (by have := HR.out; have := E1.out; omega)
            clear hG2
            go_wp2_with fail
            go_end0
            exact ⟨rfl, G2, H3.out, ((HMR.out.wide (by have := HR.out; have := E1.out; omega) (by have := HR.out; have := E1.out; omega)).trans (M1.out.wide (Nat.le_refl _) (by have := HR.out; have := E1.out; omega))).trans (M2.out.wide (by have := HR.out; have := E1.out; omega) (Nat.le_refl _)), HHv.out.done M1.out U1.out M2.out U2.out⟩

theorem sym_ok (w : World) (b n rb g : Nat) (K : Nat → Int) (cap : Nat) : ∀ q, SymOk w b n rb g K cap q := by
  intro q
  induction q with
  | zero => intro a m c f W h1 h2 h3; omega
  | succ q ih =>
    intro a m c f W h1 h2 h3 h4 HS u v o
    by_cases e1 : m - a = 1
    · exact sym_one HS cap a m c (by omega) h3 h4 v (fun t t1 t2 => o a t (Nat.le_refl _) h2 t1 t2)
    · by_cases e2 : c - m = 1
      · exact sym_two HS cap a m c (by omega) h2 e1 h4 u (fun t t1 t2 => o t m t1 t2 (Nat.le_refl _) h3)
      · exact sym_step cap q ih HS a m c h1 h2 h3 e1 e2 h4 u v o
end Go.Proofs.YtklaonoekmhakaaGreat
