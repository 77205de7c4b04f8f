/- ContractEnds: its core, over any contract. -/
import Derived.Test.YtklaonoekmhakaaGreatCfS
import Derived.Test.YtklaonoekmhakaaGreatCfG
import Derived.Test.YtklaonoekmhakaaGreatCgH
namespace Go.Proofs.YtklaonoekmhakaaGreat
open Go.RowKit

set_option maxRecDepth 100000 in
set_option maxHeartbeats 16000000 in
theorem ends16_law {Cf : World → World → Nat → Ct → Prop} (K : CfK Cf) (N : CfN Cf) (A : Aw16) (t : Tm) (p : TmP) (a : Option Addr) (cap : Nat) (l : List Op4) (w : World) (h : TmA w p t) (g : TmG t) (hR : O4A w a l) (hAm : AmP l) :
    Calls Tryz.prog 5 #[t.val p, .slice a l.length cap] w fun e w' => e = .returned (.bool true) ∧ Below w.heap.size w w' := by
  have HAw := Lib.hid A
  have HLg := Lib.hid (fun (W : World) => large16_any W t p l a cap)
  have HMade := Lib.hid (fun (W : World) (q : Below w.heap.size w W) (q1 : bigT t l = false) => made16_any N (h.up q) g (by unfold bigT at q1; simp at q1; omega) (by unfold bigT at q1; simp at q1; omega))
  have HLn : Hid (bigT t l = false → l.length ≤ 60) := Lib.hid (fun q1 => by unfold bigT at q1; simp at q1; omega)
  have HDo := Lib.hid (fun (w0 W : World) (c : Nat) (S : Ct) (h : Cf w0 W c S) (x : Op4) (q : Am x.n) => do16_any K h x q)
  unfold MadeR at HMade
  have HK := Lib.hid K
  have HR := Lib.hid hR
  have HAm := Lib.hid hAm
  obtain ⟨n, hn⟩ : ∃ n, n = l.length := ⟨_, rfl⟩
  have HN := Lib.hid hn
  rw [← hn] at HLg HLn ⊢
  obtain ⟨big, hbig⟩ : ∃ b, b = bigT t l := ⟨_, rfl⟩
  rw [← hbig] at HLg HMade HLn
  unfold Tm.val at HLg HMade ⊢
  obtain ⟨C0, hC0⟩ : ∃ C, C = (askT t).C := ⟨_, rfl⟩
  rw [← hC0] at HMade
  generalize madeE t = me at HMade
  obtain ⟨I, L, m, b, d⟩ := t
  obtain ⟨ia, ic, la, lc, ma, mc⟩ := p
  simp only at HLg HMade ⊢
  generalize I.length = ni at HLg HMade ⊢
  generalize L.length = nl at HLg HMade ⊢
  generalize m.length = nm at HLg HMade ⊢
  unfold Op4.val at HDo
  clear h g hR hAm hn hbig hC0 K N A
  go_enter Tryz.func5, Tryz.ntmps5
  go_wp2_with fail
  have HXB := Lib.hid (Has.fresh w 26 #[.slice ia ni ic, .slice la nl lc, .slice ma nm mc, .int .i64 b, .int .i64 d])
  refine (HAw.out _).mono ?_
  rintro e w1 ⟨rfl, hb⟩
  have hx := HXB.out.up hb
  have x0 := hx.cell 0
  have x1 := hx.cell 1
  have x2 := hx.cell 2
  have x3 := hx.cell 3
  have x4 := hx.cell 4
  simp at x0 x1 x2 x3 x4
  have HX1 := Lib.hid hx
  have HB1 := Lib.hid (up2 (boxed _ _) hb)
  clear hb hx
  go_wp2_with fail
  refine (HLg.out _).mono ?_
  rintro e w2 ⟨rfl, hb⟩
  have HB2 := Lib.hid (up2 HB1.out hb)
  have hx := HX1.out.up hb
  clear x0 x1 x2 x3 x4
  have x0 := hx.cell 0
  have x1 := hx.cell 1
  have x2 := hx.cell 2
  have x3 := hx.cell 3
  have x4 := hx.cell 4
  simp at x0 x1 x2 x3 x4
  clear hb hx
  cases hq : big with
  | true =>
    clear hq
    go_wp2_with fail
    go_ret
    exact ⟨rfl, HB2.out⟩
  | false =>
  have HM := Lib.hid (HMade.out _ HB2.out hq)
  have hn60 := HLn.out hq
  clear hq
  go_wp2_with fail
  refine HM.out.mono ?_
  rintro e w3 (⟨q, rfl, hb⟩ | ⟨q, w0, c, hb, rfl, hc⟩)
  · have HB3 := Lib.hid (up2 HB2.out hb)
    clear q hb x0 x1 x2 x3 x4
    go_wp2_with fail
    go_ret
    exact ⟨rfl, HB3.out⟩
  have HB0 := Lib.hid (up2 HB2.out hb)
  have HC3 := Lib.hid hc
  clear q hb hc x0 x1 x2 x3 x4
  go_wp2_with fail
  go_loopw [27] (fun i wr => ∃ k : Nat, k ≤ n ∧ i = .int .i64 (k : Int) ∧ ∃ S, Cf w0 wr c S) (fun i _ => n - (intOf i).toNat)
  case atStart => exact ⟨0, Nat.zero_le _, rfl, _, HC3.out⟩
  case round =>
    obtain ⟨k, hk, rfl, S, hT⟩ := hrel
    have HT := Lib.hid hT
    have HBr := Lib.hid (up2 HB0.out (HK.out.bel hT))
    clear hT
    by_cases hlt : k < n
    · obtain ⟨y, hy⟩ : ∃ y, l[k]? = some y := ⟨l[k]'(by rw [← HN.out]; exact hlt), List.getElem?_eq_getElem _⟩
      obtain ⟨gb, o, rfl, c0, c1, c2, c3⟩ := o4_at (HR.out.up HBr.out) hy
      have hay := HAm.out y (List.mem_of_getElem? hy)
      have e1 : IntKind.i64.wrap ((k : Int) + 1) = (k : Int) + 1 := IntWalk.i64_in _ (by omega)
      obtain ⟨A, B, C, D⟩ := y
      simp only at c0 c1 c2 c3 hay
      have HTl := Lib.hid (fun (W : World) (q : Below wr.heap.size wr W) => HDo.out _ _ _ _ (HK.out.up HT.out q) ⟨A, B, C, D⟩ hay)
      clear hy hay
      simp only at HTl
      have HUp := Lib.hid (fun (W : World) (q : Below wr.heap.size wr W) => HK.out.up HT.out q)
      by_cases q1 : A = 1
      · subst q1
        go_wp2_with fail
        refine (HTl.out _ (boxed _ _)).mono ?_
        rintro e w4 ⟨rfl, hs⟩
        have HS4 := Lib.hid hs
        clear hs c0 c1 c2 c3
        go_wp2_with fail
        exact ⟨⟨k + 1, by omega, by go_num, _, HS4.out⟩, by simp [intOf]; omega⟩
      by_cases q2 : A = 2
      · subst q2
        clear q1
        go_wp2_with fail
        refine (HTl.out _ (boxed _ _)).mono ?_
        rintro e w4 ⟨rfl, hs⟩
        have HS4 := Lib.hid hs
        clear hs c0 c1 c2 c3
        go_wp2_with fail
        exact ⟨⟨k + 1, by omega, by go_num, _, HS4.out⟩, by simp [intOf]; omega⟩
      · have b1 : (A == 1) = false := by simpa using q1
        have b2 : (A == 2) = false := by simpa using q2
        have d1 : decide (A = 1) = false := by simpa using q1
        have d2 : decide (A = 2) = false := by simpa using q2
        go_wp2_with fail
        exact ⟨⟨k + 1, by omega, by go_num, _, HUp.out _ (boxed _ _)⟩, by simp [intOf]; omega⟩
    · obtain rfl : k = n := by omega
      have HDay := Lib.hid (HK.out.day HT.out)
      have HF := Lib.hid (HK.out.fine HT.out)
      clear hlt
      go_wp2_with fail
      refine HDay.out.mono ?_
      rintro e w4 ⟨rfl, hb⟩
      have HT4 := Lib.hid (HK.out.up HT.out hb)
      clear hb
      go_wp2_with fail
      obtain ⟨M, hM⟩ : ∃ M, M = S.n := ⟨_, rfl⟩
      have hM64 : M ≤ 64 := by rw [hM]; exact HF.out.n1
      have HMe := Lib.hid hM
      obtain ⟨la0, hla0⟩ : ∃ z, z = S.la := ⟨_, rfl⟩
      have HLa := Lib.hid hla0
      have HLb : Hid (la0 ≤ 1000000) := Lib.hid (by rw [hla0]; exact HF.out.la1)
      have HMany := Lib.hid (fun (W : World) (q : Cf w0 W c S) => HK.out.many q)
      have HDut := Lib.hid (fun (W : World) (q : Cf w0 W c S) (j : Int) => HK.out.duty j q)
      unfold DutR at HDut
      rw [← hM] at HMany
      rw [← hla0]
      clear hM hla0 hk hn60
      go_loopw [9, 10] (fun v i wr => ∃ (j : Nat) (z : Int), j ≤ M ∧ i = .int .i64 (j : Int) ∧ v = .int .i64 z ∧ la0 ≤ z ∧ z ≤ 1000000 ∧ (∀ t, t < j → (S.tr t).d.me ≤ 1 ∧ (S.tr t).d.la ≤ z) ∧ Cf w0 wr c S) (fun _ i _ => M - (intOf i).toNat)
      case atStart => exact ⟨0, la0, Nat.zero_le _, rfl, rfl, Int.le_refl _, HLb.out, fun t ht => absurd ht (Nat.not_lt_zero _), HT4.out⟩
      case round =>
        obtain ⟨j, z, hj, rfl, rfl, hz0, hz1, hall, hT⟩ := hrel
        have HT5 := Lib.hid hT
        have HAl := Lib.hid hall
        have HMy := Lib.hid (HMany.out _ hT)
        clear hT hall
        by_cases hlt : j < M
        · have hjn : (j : Int) < (M : Int) := by omega
          have e1 : IntKind.i64.wrap ((j : Int) + 1) = (j : Int) + 1 := IntWalk.i64_in _ (by omega)
          have hhas : S.has (j : Int) = true := by unfold Ct.has; rw [← HMe.out]; simp; omega
          have HHas := Lib.hid hhas
          have HTrk := Lib.hid (HF.out.trk (t := j) (by rw [← HMe.out]; exact hlt))
          clear hhas
          go_wp2_with fail
          refine HMy.out.mono ?_
          rintro e w5 ⟨rfl, hb⟩
          have HT6 := Lib.hid (HK.out.up HT5.out hb)
          clear hb
          have HD6 := Lib.hid (HDut.out _ HT6.out (j : Int))
          go_wp2_with fail
          refine HD6.out.mono ?_
          rintro e w6 ⟨hb, ⟨q, _⟩ | ⟨_, da, dc, rfl, _⟩⟩
          · rw [HHas.out] at q; cases q
          have HT7 := Lib.hid (HK.out.up HT6.out hb)
          have HDl : Hid ((S.tr j).d.la ≤ 1000000) := Lib.hid (dtB_iff.1 HTrk.out.t.may).2.2.2.2.1
          obtain ⟨D, hD⟩ : ∃ D, D = (S.tr j).d := ⟨_, rfl⟩
          rw [show ((j : Int)).toNat = j from rfl, ← hD]
          rw [← hD] at HDl
          have HDe := Lib.hid hD
          unfold Dt.val
          generalize D.ls.length = dn
          generalize D.al = al
          generalize D.un = un
          generalize D.fi = fi
          obtain ⟨me', hme⟩ : ∃ z, z = D.me := ⟨_, rfl⟩
          obtain ⟨dl, hdl⟩ : ∃ z, z = D.la := ⟨_, rfl⟩
          rw [← hme, ← hdl]
          rw [← hdl] at HDl
          have HMe' : Hid (me' = (S.tr j).d.me ∧ dl = (S.tr j).d.la) := Lib.hid (by rw [hme, hdl, HDe.out]; exact ⟨rfl, rfl⟩)
          clear hb hD hme hdl
          by_cases q : 1 < me'
          · go_wp2_with fail
            go_ret
            exact ⟨rfl, up2 HB0.out (HK.out.bel (HK.out.up HT7.out (boxed _ _)))⟩
          · go_wp2_with fail
            refine ⟨⟨j + 1, max z dl, by omega, by go_num, rfl, by omega, by have := HDl.out; omega, fun t ht => ?_, HK.out.up HT7.out (boxed _ _)⟩, by simp [intOf]; omega⟩
            by_cases r : t < j
            · have := HAl.out t r
              omega
            · obtain rfl : t = j := by omega
              rw [← HMe'.out.1, ← HMe'.out.2]
              omega
        · obtain rfl : j = M := by omega
          have hEnd : ∀ D, z ≤ D → S.all D = S.N := fun D hD => ct_ends HF.out (by rw [← HLa.out]; omega) fun t ht => by
            have := HAl.out t (by rw [HMe.out]; exact ht)
            exact thr_days (HF.out.trk ht).t this.1 (by omega)
          have HA1 := Lib.hid (fun (W : World) (q : Cf w0 W c S) => HK.out.all z q)
          have HA2 := Lib.hid (fun (W : World) (q : Cf w0 W c S) => HK.out.all 1000000 q)
          rw [hEnd z (Int.le_refl _)] at HA1
          rw [hEnd 1000000 hz1] at HA2
          have HPr := Lib.hid (fun (W : World) (q : Cf w0 W c S) => HK.out.price q)
          generalize S.N = NN at HA1 HA2 HPr
          clear hEnd hlt
          go_wp2_with fail
          refine HMy.out.mono ?_
          rintro e w5 ⟨rfl, hb⟩
          have HT6 := Lib.hid (HK.out.up HT5.out hb)
          clear hb
          go_wp2_with fail
          refine (HA1.out _ HT6.out).mono ?_
          rintro e w6 ⟨rfl, hb⟩
          have HT7 := Lib.hid (HK.out.up HT6.out hb)
          clear hb
          go_wp2_with fail
          refine (HPr.out _ HT7.out).mono ?_
          rintro e w7 ⟨rfl, hb⟩
          have HT8 := Lib.hid (HK.out.up HT7.out hb)
          clear hb
          go_wp2_with fail
          refine (HA2.out _ HT8.out).mono ?_
          rintro e w8 ⟨rfl, hb⟩
          have HT9 := Lib.hid (HK.out.up HT8.out hb)
          clear hb
          go_wp2_with fail
          refine (HPr.out _ HT9.out).mono ?_
          rintro e w9 ⟨rfl, hb⟩
          have HTa := Lib.hid (HK.out.up HT9.out hb)
          clear hb
          go_wp2_with fail
          go_ret
          exact ⟨by simp, up2 HB0.out (HK.out.bel HTa.out)⟩
end Go.Proofs.YtklaonoekmhakaaGreat

namespace Go.Proofs.YtklaonoekmhakaaGreat
open Go.RowKit

theorem ends16_core (t : Tm) (p : TmP) (a : Option Addr) (cap : Nat) (l : List Op4)  (w : World) (h : TmA w p t) (g : TmG t) (hR : O4A w a l) (hAm : AmP l) :
    Calls Tryz.prog 5 #[t.val p, .slice a l.length cap] w fun e w' => e = .returned (.bool true) ∧ Below w.heap.size w w' :=
  ends16_law (cfk_of pck) cxnew_any (awake16_any (cfk_of pck) cxnew_any) t p a cap l  w h g hR hAm
end Go.Proofs.YtklaonoekmhakaaGreat

namespace Go.Proofs.YtklaonoekmhakaaGreat
open Go.RowKit

theorem ints_kp {O : Nat → Prop} {w w' : World} {g n : Nat} {f : Nat → Int} (h : Ints w g n f) (k : Kp O w w') (hg : ¬ O g) (hl : g < w.heap.size) : Ints w' g n f := fun t ht => by
  have e := k.block g hl hg
  have := h t ht
  unfold World.cell? World.frozen? at this ⊢
  simp only at this ⊢
  rw [e]
  exact this
theorem onwS_parts {S : Ct} {day more : Int} (q : S.onwE day more = 0) : (S.onwS day more).N = S.N + more ∧ (S.onwS day more).la = day ∧ (S.onwS day more).n = S.n := by
  unfold Ct.onwS
  rw [if_pos q]
  exact ⟨rfl, rfl, by simp [Ct.n]⟩
theorem ct_onw_no {S : Ct} {day more : Int} (q : S.onwE day more ≠ 0) : S.onwS day more = S := by
  unfold Ct.onwS; rw [if_neg q]
set_option maxRecDepth 100000 in
set_option maxHeartbeats 16000000 in
theorem onward16_law {Cf : World → World → Nat → Ct → Prop} (K : CfK Cf) (KO : CfO Cf) (N : CfN Cf) (A : Aw16) (t : Tm) (p : TmP) (a : Option Addr) (cap : Nat) (l : List Op4) (day more other : Int) (hmo : Am more) (w : World) (h : TmA w p t) (g : TmG t) (hR : O4A w a l) (hAm : AmP l) :
    Calls Tryz.prog 6 #[t.val p, .slice a l.length cap, .int .i64 day, .int .i64 more, .int .i64 other] w fun e w' => e = .returned (.bool true) ∧ Below w.heap.size w w' := by
  have HAw := Lib.hid A
  have HLg := Lib.hid (fun (W : World) => large16_any W t p l a cap)
  have HMade := Lib.hid (fun (W : World) (q : Below w.heap.size w W) (q1 : bigT t l = false) => made16_any N (h.up q) g (by unfold bigT at q1; simp at q1; omega) (by unfold bigT at q1; simp at q1; omega))
  have HOn := Lib.hid (fun (w0 W W2 : World) (c : Nat) (S : Ct) (h : Cf w0 W c S) (q : Below W.heap.size W W2) => KO day more h q hmo)
  have HLn : Hid (bigT t l = false → l.length ≤ 60) := Lib.hid (fun q1 => by unfold bigT at q1; simp at q1; omega)
  have HDo := Lib.hid (fun (w0 W : World) (c : Nat) (S : Ct) (h : Cf w0 W c S) (x : Op4) (q : Am x.n) => do16_any K h x q)
  unfold MadeR at HMade
  have HK := Lib.hid K
  have HR := Lib.hid hR
  have HAm := Lib.hid hAm
  obtain ⟨n, hn⟩ : ∃ n, n = l.length := ⟨_, rfl⟩
  have HN := Lib.hid hn
  rw [← hn] at HLg HLn ⊢
  obtain ⟨big, hbig⟩ : ∃ b, b = bigT t l := ⟨_, rfl⟩
  rw [← hbig] at HLg HMade HLn
  unfold Tm.val at HLg HMade ⊢
  obtain ⟨C0, hC0⟩ : ∃ C, C = (askT t).C := ⟨_, rfl⟩
  rw [← hC0] at HMade
  generalize madeE t = me at HMade
  obtain ⟨I, L, m, b, d⟩ := t
  obtain ⟨ia, ic, la, lc, ma, mc⟩ := p
  simp only at HLg HMade ⊢
  generalize I.length = ni at HLg HMade ⊢
  generalize L.length = nl at HLg HMade ⊢
  generalize m.length = nm at HLg HMade ⊢
  unfold Op4.val at HDo
  clear h g hR hAm hn hbig hC0 K N A hmo KO
  go_enter Tryz.func6, Tryz.ntmps6
  go_wp2_with fail
  have HXB := Lib.hid (Has.fresh w 26 #[.slice ia ni ic, .slice la nl lc, .slice ma nm mc, .int .i64 b, .int .i64 d])
  refine (HAw.out _).mono ?_
  rintro e w1 ⟨rfl, hb⟩
  have hx := HXB.out.up hb
  have x0 := hx.cell 0
  have x1 := hx.cell 1
  have x2 := hx.cell 2
  have x3 := hx.cell 3
  have x4 := hx.cell 4
  simp at x0 x1 x2 x3 x4
  have HX1 := Lib.hid hx
  have HB1 := Lib.hid (up2 (boxed _ _) hb)
  clear hb hx
  go_wp2_with fail
  refine (HLg.out _).mono ?_
  rintro e w2 ⟨rfl, hb⟩
  have HB2 := Lib.hid (up2 HB1.out hb)
  have hx := HX1.out.up hb
  clear x0 x1 x2 x3 x4
  have x0 := hx.cell 0
  have x1 := hx.cell 1
  have x2 := hx.cell 2
  have x3 := hx.cell 3
  have x4 := hx.cell 4
  simp at x0 x1 x2 x3 x4
  clear hb hx
  cases hq : big with
  | true =>
    clear hq
    go_wp2_with fail
    go_ret
    exact ⟨rfl, HB2.out⟩
  | false =>
  have HM := Lib.hid (HMade.out _ HB2.out hq)
  have hn60 := HLn.out hq
  clear hq
  go_wp2_with fail
  refine HM.out.mono ?_
  rintro e w3 (⟨q, rfl, hb⟩ | ⟨q, w0, c, hb, rfl, hc⟩)
  · have HB3 := Lib.hid (up2 HB2.out hb)
    clear q hb x0 x1 x2 x3 x4
    go_wp2_with fail
    go_ret
    exact ⟨rfl, HB3.out⟩
  have HB0 := Lib.hid (up2 HB2.out hb)
  have HC3 := Lib.hid hc
  clear q hb hc x0 x1 x2 x3 x4
  go_wp2_with fail
  go_loopw [33] (fun i wr => ∃ k : Nat, k ≤ n ∧ i = .int .i64 (k : Int) ∧ ∃ S, Cf w0 wr c S) (fun i _ => n - (intOf i).toNat)
  case atStart => exact ⟨0, Nat.zero_le _, rfl, _, HC3.out⟩
  case round =>
    obtain ⟨k, hk, rfl, S, hT⟩ := hrel
    have HT := Lib.hid hT
    have HBr := Lib.hid (up2 HB0.out (HK.out.bel hT))
    clear hT
    by_cases hlt : k < n
    · obtain ⟨y, hy⟩ : ∃ y, l[k]? = some y := ⟨l[k]'(by rw [← HN.out]; exact hlt), List.getElem?_eq_getElem _⟩
      obtain ⟨gb, o, rfl, c0, c1, c2, c3⟩ := o4_at (HR.out.up HBr.out) hy
      have hay := HAm.out y (List.mem_of_getElem? hy)
      have e1 : IntKind.i64.wrap ((k : Int) + 1) = (k : Int) + 1 := IntWalk.i64_in _ (by omega)
      obtain ⟨A, B, C, D⟩ := y
      simp only at c0 c1 c2 c3 hay
      have HTl := Lib.hid (fun (W : World) (q : Below wr.heap.size wr W) => HDo.out _ _ _ _ (HK.out.up HT.out q) ⟨A, B, C, D⟩ hay)
      clear hy hay
      simp only at HTl
      go_wp2_with fail
      refine (HTl.out _ (boxed _ _)).mono ?_
      rintro e w5 ⟨rfl, hs⟩
      have HS5 := Lib.hid hs
      clear hs c0 c1 c2 c3
      go_wp2_with fail
      exact ⟨⟨k + 1, by omega, by go_num, _, HS5.out⟩, by simp [intOf]; omega⟩
    · obtain rfl : k = n := by omega
      clear hlt
      go_wp2_with fail
      have HF := Lib.hid (HK.out.fine HT.out)
      have hM64 := HF.out.n1
      have hM0 := HF.out.n0
      have HMany := Lib.hid (fun (W : World) (q : Below wr.heap.size wr W) => HK.out.many (HK.out.up HT.out q))
      have HEar := Lib.hid (fun (W : World) (q : Below wr.heap.size wr W) (j : Int) => HK.out.earned j (min other day) (HK.out.up HT.out q))
      have HPri := Lib.hid (fun (W : World) (q : Below wr.heap.size wr W) => HK.out.price (HK.out.up HT.out q))
      have HOw := Lib.hid (fun (W : World) (q : Below wr.heap.size wr W) => HOn.out _ _ W _ _ HT.out q)
      obtain ⟨M, hM⟩ : ∃ M, M = S.n := ⟨_, rfl⟩
      rw [← hM] at hM64 hM0 HMany
      have HMe := Lib.hid hM
      obtain ⟨wo, hwo⟩ : ∃ wo, wo = wr := ⟨_, rfl⟩
      rw [← hwo] at HMany HEar HPri HOw HT HBr ⊢
      clear hM hwo hk hn60
      go_loopw [15, 16] (fun v i wr => ∃ j : Nat, j ≤ M ∧ i = .int .i64 (j : Int) ∧ ∃ a1 c1, v = .slice a1 j c1 ∧ OwL wr wo.heap.size [⟨2, 1, .slice a1 j c1, j, valsTo (S.ear (min other day)) j⟩] ∧ Below wo.heap.size wo wr) (fun _ i _ => M - (intOf i).toNat)
      case atStart => exact ⟨0, Nat.zero_le _, rfl, none, 0, rfl, OwL.nils fun x hx => ⟨2, 1, List.mem_singleton.1 hx⟩, Below.refl _ _⟩
      case round =>
        obtain ⟨wz, hwz⟩ : ∃ wz, wz = wr := ⟨_, rfl⟩
        rw [← hwz] at hrel ⊢
        clear hwz
        obtain ⟨j, hj, rfl, a1, c1, rfl, hO, hb⟩ := hrel
        have HO := Lib.hid hO
        have HB := Lib.hid hb
        have HMy := Lib.hid (HMany.out _ hb)
        clear hO hb
        by_cases hlt : j < M
        · have hjn : (j : Int) < (M : Int) := by omega
          have e1 : IntKind.i64.wrap ((j : Int) + 1) = (j : Int) + 1 := IntWalk.i64_in _ (by omega)
          have hhas : S.has (j : Int) = true := by unfold Ct.has; rw [← HMe.out]; simp; omega
          have hAe : S.earA (j : Int) (min other day) = S.ear (min other day) j := by unfold Ct.earA; rw [if_pos hhas]; rfl
          have HEa := Lib.hid (fun (W : World) (q : Below wo.heap.size wo W) => HEar.out W q (j : Int))
          rw [hAe] at HEa
          obtain ⟨ev, hev⟩ : ∃ z, z = S.ear (min other day) j := ⟨_, rfl⟩
          rw [← hev] at HEa
          have HEv := Lib.hid hev
          clear hhas hAe hev
          go_wp2_with fail
          refine HMy.out.mono ?_
          rintro e w5 ⟨rfl, hb⟩
          have HB5 := Lib.hid (up2 HB.out hb)
          have HO5 := Lib.hid (HO.out.up hb)
          clear hb
          go_wp2_with fail
          refine (HEa.out _ HB5.out).mono ?_
          rintro e w6 ⟨rfl, hb⟩
          have HB6 := Lib.hid (up2 HB5.out hb)
          have HO6 := Lib.hid (HO5.out.up hb)
          clear hb
          obtain ⟨W8, hW8⟩ : ∃ W8, W8 = w6.alloc (.cells #[.int .i64 ev] 2) := ⟨_, rfl⟩
          have hb8 : Below w6.heap.size w6 W8 := by rw [hW8]; exact boxed _ _
          have hy8 : Has W8 w6.heap.size 2 #[.int .i64 ev] := by rw [hW8]; exact Has.fresh _ _ _
          obtain ⟨a3, c4, w9, hr9, ho9, hb9, _⟩ := owl_num (w0 := wo) (HO6.out.up hb8) (i := 0) (k := j) rfl (by omega) hy8 (up2 HB6.out hb8) (Nat.le_refl _) (up2 HB6.out hb8).size 64
          have HR9 := Lib.hid hr9
          have HO9 := Lib.hid ho9
          have HB9 := Lib.hid hb9
          have HW8 := Lib.hid hW8
          clear hr9 ho9 hb9 hb8 hy8 hW8
          go_wp2_with (first | (rw [← HW8.out]; refine wpList_run (o := ⟨some 55, _, _, _, _, _⟩) rfl (.tmp 47) (.tmp 54) 64 rfl _ _ rfl rfl (S := fun u q => u = .slice a3 (j + 1) c4 ∧ q = w9) ⟨_, w9, HR9.out, rfl, rfl⟩ ?_; rintro u q ⟨rfl, rfl⟩) | fail)
          refine ⟨⟨j + 1, by omega, by go_num, _, _, rfl, ?_, HB9.out⟩, by simp [intOf]; omega⟩
          rw [valsTo_step, ← HEv.out]
          exact HO9.out
        · obtain rfl : j = M := by omega
          obtain ⟨ag, cc, hae, hag, hIn⟩ : ∃ g cc, (Value.slice a1 j c1) = .slice (some ⟨g, 0, none⟩) j cc ∧ wo.heap.size ≤ g ∧ Ints wz g j (S.ear (min other day)) := by
            obtain ⟨g, cc, e, hg, hI⟩ := vals_ints hM0 (HO.out.own 0 _ rfl)
            exact ⟨g, cc, e, hg, hI⟩
          injection hae with e1 _ e2
          subst e1
          subst e2
          have HI := Lib.hid hIn
          have HAg := Lib.hid hag
          have HLt := Lib.hid (HO.out.ge (i := 0) (g := ag) (n := j) (cap := c1) rfl).2
          obtain ⟨NN, hNN⟩ : ∃ z, z = S.N := ⟨_, rfl⟩
          rw [← hNN] at HPri
          obtain ⟨X, hX⟩ : ∃ z, z = S.onwE day more := ⟨_, rfl⟩
          rw [← hX] at HOw
          have HNe := Lib.hid hNN
          have HXe := Lib.hid hX
          have hN0 : 0 ≤ NN := by rw [hNN]; exact HF.out.N0
          have hN1 : NN ≤ 9223372036854775807 := by rw [hNN]; exact HF.out.N1
          clear hlt hj hIn hag hNN hX
          go_wp2_with fail
          refine HMy.out.mono ?_
          rintro e w5 ⟨rfl, hb⟩
          have HB5 := Lib.hid (up2 HB.out hb)
          have HI5 := Lib.hid (ints_up HI.out hb)
          have HLt5 := Lib.hid (Nat.lt_of_lt_of_le HLt.out hb.size)
          clear hb
          go_wp2_with fail
          refine (HPri.out _ HB5.out).mono ?_
          rintro e w6 ⟨rfl, hb⟩
          have HB6 := Lib.hid (up2 HB5.out hb)
          have HI6 := Lib.hid (ints_up HI5.out hb)
          have HLt6 := Lib.hid (Nat.lt_of_lt_of_le HLt5.out hb.size)
          clear hb
          go_wp2_with fail
          refine (HOw.out _ HB6.out).mono ?_
          rintro e w7 ⟨rfl, hc, hkp⟩
          have HC7 := Lib.hid hc
          have HI7 : Hid (Ints w7 ag j (S.ear (min other day))) := Lib.hid (ints_kp HI6.out hkp (fun z => by have := HAg.out; omega) HLt6.out)
          clear hkp hc
          by_cases q0 : X = 0
          · have b1 : (X != 0) = false := by simpa using q0
            obtain ⟨p1, p2, p3⟩ := onwS_parts (S := S) (day := day) (more := more) (by rw [← HXe.out]; exact q0)
            have HP7 := Lib.hid (fun (W : World) (q : Below w7.heap.size w7 W) => HK.out.price (HK.out.up HC7.out q))
            rw [p1, ← HNe.out] at HP7
            have HD7 := Lib.hid (fun (W : World) (q : Below w7.heap.size w7 W) => HK.out.day (HK.out.up HC7.out q))
            rw [p2] at HD7
            have HM7 := Lib.hid (fun (W : World) (q : Below w7.heap.size w7 W) => HK.out.many (HK.out.up HC7.out q))
            rw [p3, ← HMe.out] at HM7
            have hAm7 : 0 ≤ NN + more ∧ NN + more ≤ 9223372036854775807 := by
              have f := HK.out.fine HC7.out
              have f0 := f.N0
              have f1 := f.N1
              rw [p1, ← HNe.out] at f0 f1
              exact ⟨f0, f1⟩
            have HE7 : Hid (∀ t : Nat, t < j → ∀ W, Below w7.heap.size w7 W → Calls Tryz.prog 23 #[.pointer (some ⟨c, 0, none⟩), .int .i64 (t : Int), .int .i64 (min other day)] W fun e w' => e = .returned (.int .i64 (S.ear (min other day) t)) ∧ Below W.heap.size W w') := Lib.hid fun t ht W q => by
              have z := HK.out.earned (t : Int) (min other day) (HK.out.up HC7.out q)
              have hn : t < S.n := by rw [← HMe.out]; exact ht
              have hhas : (S.onwS day more).has (t : Int) = true := by unfold Ct.has; rw [p3, ← HMe.out]; simp; omega
              rw [show (S.onwS day more).earA (t : Int) (min other day) = S.ear (min other day) t by unfold Ct.earA; rw [if_pos hhas]; exact ct_onward HF.out (by rw [← HXe.out]; exact q0) (by omega) hn] at z
              exact z
            have e3 : IntKind.i64.wrap (NN + more - more) = NN := by rw [show NN + more - more = NN by omega]; exact IntWalk.i64_in _ (by omega)
            have b3 : (NN != NN) = false := by simp
            clear q0 p1 p2 p3
            go_wp2_with fail
            refine (HP7.out _ (Below.refl _ _)).mono ?_
            rintro e w8 ⟨rfl, hb⟩
            have HB8 := Lib.hid hb
            clear hb
            go_wp2_with fail
            refine (HD7.out _ HB8.out).mono ?_
            rintro e w9 ⟨rfl, hb⟩
            have HB9 := Lib.hid (up2 HB8.out hb)
            clear hb
            go_wp2_with fail
            go_loopw [18] (fun i wr => ∃ t : Nat, t ≤ j ∧ i = .int .i64 (t : Int) ∧ Below w7.heap.size w7 wr) (fun i _ => j - (intOf i).toNat)
            case atStart => exact ⟨0, Nat.zero_le _, rfl, HB9.out⟩
            case round =>
              obtain ⟨wy, hwy⟩ : ∃ wy, wy = wr := ⟨_, rfl⟩
              rw [← hwy] at hrel ⊢
              clear hwy
              obtain ⟨t, ht, rfl, hb⟩ := hrel
              have HBy := Lib.hid hb
              have HMt := Lib.hid (HM7.out _ hb)
              clear hb
              by_cases hlt : t < j
              · have hjn : (t : Int) < (j : Int) := by omega
                have e1 : IntKind.i64.wrap ((t : Int) + 1) = (t : Int) + 1 := IntWalk.i64_in _ (by omega)
                have HEt := Lib.hid (HE7.out t hlt)
                have kv := (HI7.out t hlt).1
                obtain ⟨ev, hev⟩ : ∃ z, z = S.ear (min other day) t := ⟨_, rfl⟩
                rw [← hev] at HEt kv
                clear hev
                go_wp2_with fail
                refine HMt.out.mono ?_
                rintro e wx ⟨rfl, hb⟩
                have HE1 := Lib.hid (HEt.out _ (up2 HBy.out hb).drew)
                have hk : wx.drew.cell? ⟨ag, t, none⟩ = some (.int .i64 ev) := kcell (up2 HBy.out hb).drew kv
                have HK1 := Lib.hid (fun (W : World) (q : Below wx.drew.heap.size wx.drew W) => kcell q hk)
                have HB1' := Lib.hid (fun (W : World) (q : Below wx.drew.heap.size wx.drew W) => up2 (up2 HBy.out hb).drew q)
                have b2 : (ev != ev) = false := by simp
                clear hb kv
                go_wp2_with fail
                have K0 : Hid (wx.drew.cell? ⟨ag, t, none⟩ = some (.int .i64 ev)) := Lib.hid hk
                go_region_held3 (fun w' => w'.cell? ⟨ag, t, none⟩ = some (.int .i64 ev))
                  (first | (go_keep; done) | (with_reducible exact K0.out) | (with_reducible exact kK1.out))
                  (first | (go_at_call 23; (with_reducible refine (HE1.out).mono ?_); rintro e wv ⟨rfl, hb⟩; have kB7 := Lib.hid (HB1'.out _ hb); have kK1 := Lib.hid (HK1.out _ hb); clear hb))
                all_goals
                  clear hk
                  go_wp2_with fail
                  exact ⟨⟨t + 1, by omega, by go_num, kB7.out⟩, by simp [intOf]; omega⟩
              · obtain rfl : t = j := by omega
                clear hlt
                go_wp2_with fail
                refine HMt.out.mono ?_
                rintro e wx ⟨rfl, hb⟩
                have HCx := Lib.hid (HK.out.up HC7.out (up2 HBy.out hb))
                clear hb
                go_wp2_with fail
                go_ret
                exact ⟨by simp, up2 HB0.out (HK.out.bel HCx.out)⟩
          · have b1 : (X != 0) = true := by simpa using q0
            have hS : S.onwS day more = S := ct_onw_no (by rw [← HXe.out]; exact q0)
            have HP7 := Lib.hid (HK.out.price HC7.out)
            rw [hS, ← HNe.out] at HP7
            clear q0 hS
            go_wp2_with fail
            refine HP7.out.mono ?_
            rintro e w8 ⟨rfl, hb⟩
            have HC8 := Lib.hid (HK.out.up HC7.out hb)
            clear hb
            go_wp2_with fail
            go_ret
            exact ⟨by simp, up2 HB0.out (HK.out.bel HC8.out)⟩
end Go.Proofs.YtklaonoekmhakaaGreat
