/- The law of the program's contract: its core. -/
import Derived.Test.YtklaonoekmhakaaGreatCfG
import Derived.Test.YtklaonoekmhakaaGreatCfF
import Derived.Test.YtklaonoekmhakaaGreatCgH
import Derived.Test.YtklaonoekmhakaaGreatBoW
import Derived.Test.YtklaonoekmhakaaGreatCfS
import Derived.Test.YtklaonoekmhakaaGreatTrMem
import Derived.Test.YtklaonoekmhakaaGreatAlJ
namespace Go.Proofs.YtklaonoekmhakaaGreat
open Go.RowKit

theorem onward16_core (t : Tm) (p : TmP) (a : Option Addr) (cap : Nat) (l : List Op4) (day more other : Int) (hmo : Am more) (w : World) (h : TmA w p t) (g : TmG t) (hR : O4A w a l) (hAm : AmP l) :
    Calls Tryz.prog 6 #[t.val p, .slice a l.length cap, .int .i64 day, .int .i64 more, .int .i64 other] w fun e w' => e = .returned (.bool true) ∧ Below w.heap.size w w' :=
  onward16_law (cfk_of pck) (cfo_of pck) cxnew_any (awake16_any (cfk_of pck) cxnew_any) t p a cap l day more other hmo w h g hR hAm
end Go.Proofs.YtklaonoekmhakaaGreat

namespace Go.Proofs.YtklaonoekmhakaaGreat
open Go.RowKit

set_option maxRecDepth 100000 in
set_option maxHeartbeats 16000000 in
theorem near16_any {Cf : World → World → Nat → Ct → Prop} (K : CfK Cf) {w0 w : World} {c : Nat} {S : Ct} (h : Cf w0 w c S) (hN : NearC S) :
    Calls Tryz.prog 29 #[.pointer (some ⟨c, 0, none⟩)] w fun e w' => e = .returned (.bool true) ∧ Below w.heap.size w w' := by
  have HF := Lib.hid (K.fine h)
  have HNr := Lib.hid hN
  have hM64 := (K.fine h).n1
  have hM0 := (K.fine h).n0
  have HMany := Lib.hid (fun (W : World) (q : Below w.heap.size w W) => K.many (K.up h q))
  have HDut := Lib.hid (fun (W : World) (q : Below w.heap.size w W) (j : Int) => K.duty j (K.up h q))
  have HPri := Lib.hid (fun (W : World) (q : Below w.heap.size w W) => K.price (K.up h q))
  have HAlt := Lib.hid (fun (W : World) (q : Below w.heap.size w W) (j : Int) => K.allot j (K.up h q))
  unfold DutR at HDut
  obtain ⟨M, hM⟩ : ∃ M, M = S.n := ⟨_, rfl⟩
  rw [← hM] at hM64 hM0 HMany
  have HMe := Lib.hid hM
  obtain ⟨NN, hNN⟩ : ∃ z, z = S.N := ⟨_, rfl⟩
  rw [← hNN] at HPri
  have HNe := Lib.hid hNN
  clear h hN hM hNN K
  go_enter Tryz.func29, Tryz.ntmps29
  go_wp2_with fail
  go_loopw [3, 4] (fun v i wr => ∃ j : Nat, j ≤ M ∧ i = .int .i64 (j : Int) ∧ ∃ a1 c1, v = .slice a1 j c1 ∧ OwL wr w.heap.size [⟨2, 1, .slice a1 j c1, j, valsTo S.alo j⟩] ∧ Below w.heap.size w wr) (fun _ i _ => M - (intOf i).toNat)
  case atStart => exact ⟨0, Nat.zero_le _, rfl, none, 0, rfl, OwL.nils fun x hx => ⟨2, 1, List.mem_singleton.1 hx⟩, Below.refl _ _⟩
  case round =>
    obtain ⟨j, hj, rfl, a1, c1, rfl, hO, hb⟩ := hrel
    have HO := Lib.hid hO
    have HB := Lib.hid hb
    have HMy := Lib.hid (HMany.out _ hb)
    clear hO hb
    by_cases hlt : j < M
    · have hjn : (j : Int) < (M : Int) := by omega
      have e1 : IntKind.i64.wrap ((j : Int) + 1) = (j : Int) + 1 := IntWalk.i64_in _ (by omega)
      have hhas : S.has (j : Int) = true := by unfold Ct.has; rw [← HMe.out]; simp; omega
      have HHas := Lib.hid hhas
      clear hhas
      go_wp2_with fail
      refine HMy.out.mono ?_
      rintro e w5 ⟨rfl, hb⟩
      have HB5 := Lib.hid (up2 HB.out hb)
      have HO5 := Lib.hid (HO.out.up hb)
      clear hb
      have HD6 := Lib.hid (HDut.out _ HB5.out (j : Int))
      go_wp2_with fail
      refine HD6.out.mono ?_
      rintro e w6 ⟨hb, ⟨q, _⟩ | ⟨_, da, dc, rfl, _⟩⟩
      · rw [HHas.out] at q; cases q
      have HB6 := Lib.hid (up2 HB5.out hb)
      have HO6 := Lib.hid (HO5.out.up hb)
      obtain ⟨D, hD⟩ : ∃ D, D = (S.tr j).d := ⟨_, rfl⟩
      rw [show ((j : Int)).toNat = j from rfl, ← hD]
      obtain ⟨al, hal⟩ : ∃ z, z = D.al := ⟨_, rfl⟩
      have HAl : Hid (al = S.alo j) := Lib.hid (by rw [hal, hD]; rfl)
      unfold Dt.val
      rw [← hal]
      generalize D.ls.length = dn
      generalize D.un = un
      generalize D.fi = fi
      generalize D.me = me
      generalize D.la = dl
      clear hb hD hal
      obtain ⟨W8, hW8⟩ : ∃ W8, W8 = (w6.alloc (.cells #[.slice da dn dc, .int .i64 al, .int .i64 un, .int .i64 me, .int .i64 fi, .int .i64 dl] 51)).alloc (.cells #[.int .i64 al] 2) := ⟨_, rfl⟩
      have hb8 : Below w6.heap.size w6 W8 := by rw [hW8]; exact up2 (boxed _ _) (boxed _ _)
      have hy8 : Has W8 (w6.heap.size + 1) 2 #[.int .i64 al] := by
        rw [hW8]
        have := Has.fresh (w6.alloc (.cells #[.slice da dn dc, .int .i64 al, .int .i64 un, .int .i64 me, .int .i64 fi, .int .i64 dl] 51)) 2 #[.int .i64 al]
        rwa [show (w6.alloc (.cells #[.slice da dn dc, .int .i64 al, .int .i64 un, .int .i64 me, .int .i64 fi, .int .i64 dl] 51)).heap.size = w6.heap.size + 1 by simp] at this
      obtain ⟨a3, c4, w9, hr9, ho9, hb9, _⟩ := owl_num (w0 := w) (HO6.out.up hb8) (i := 0) (k := j) rfl (by omega) hy8 (up2 HB6.out hb8) (Nat.le_refl _) (up2 HB6.out hb8).size 64
      have HR9 := Lib.hid hr9
      have HO9 := Lib.hid ho9
      have HB9 := Lib.hid hb9
      have HW8 := Lib.hid hW8
      clear hr9 ho9 hb9 hb8 hy8 hW8
      go_wp2_with (first | (rw [← HW8.out]; refine wpList_run (o := ⟨some 30, _, _, _, _, _⟩) rfl (.tmp 26) (.tmp 29) 64 rfl _ _ rfl rfl (S := fun u q => u = .slice a3 (j + 1) c4 ∧ q = w9) ⟨_, w9, HR9.out, rfl, rfl⟩ ?_; rintro u q ⟨rfl, rfl⟩) | fail)
      refine ⟨⟨j + 1, by omega, by go_num, _, _, rfl, ?_, HB9.out⟩, by simp [intOf]; omega⟩
      rw [valsTo_step, ← HAl.out]
      exact HO9.out
    · obtain rfl : j = M := by omega
      have hA1 : Arg wr a1 j S.alo := fun hp => by
        obtain ⟨g, cc, e, _, hI⟩ := vals_ints hp (HO.out.own 0 _ rfl)
        injection e with e
        subst e
        exact ints_arg0 hI hp
      obtain ⟨ag, cc, hae, hIn⟩ : ∃ g cc, (Value.slice a1 j c1) = .slice (some ⟨g, 0, none⟩) j cc ∧ Ints wr g j S.alo := by
        obtain ⟨g, cc, e, _, hI⟩ := vals_ints hM0 (HO.out.own 0 _ rfl)
        exact ⟨g, cc, e, hI⟩
      injection hae with e1 _ e2
      subst e1
      subst e2
      have HI := Lib.hid hIn
      obtain ⟨sm, hsm⟩ : ∃ z, z = sumN S.alo S.n := ⟨_, rfl⟩
      have hs1 : 1 ≤ sm := by rw [hsm]; have := HNr.out.s0; omega
      have hs2 : sm ≤ 9223372036854775807 := by rw [hsm]; exact HNr.out.s1
      have hse : sumN S.alo j = sm := by rw [hsm, HMe.out]
      have HSum := Lib.hid (fun (W : World) (q : Below wr.heap.size wr W) => sum_arg S.alo (some ⟨ag, 0, none⟩) j c1 W HF.out.alo_am (by omega) fun hp => ints_arg0 (ints_up hIn q) hp)
      rw [hse] at HSum
      rw [show tellV sm = sm from (by unfold tellV; rw [if_pos (by constructor <;> omega)]), show tellE sm = 0 from (by unfold tellE; rw [if_pos (by constructor <;> omega)])] at HSum
      have HSm := Lib.hid hsm
      clear hlt hj hA1 hsm hse hIn
      go_wp2_with fail
      refine HMy.out.mono ?_
      rintro e w5 ⟨rfl, hb⟩
      have HB5 := Lib.hid hb
      clear hb
      go_wp2_with fail
      refine (HSum.out _ HB5.out).mono ?_
      rintro e w6 ⟨rfl, hb⟩
      have HB6 := Lib.hid (up2 HB5.out hb)
      clear hb
      go_wp2_with fail
      have HBw := Lib.hid HB.out
      obtain ⟨wo, hwo⟩ : ∃ wo, wo = wr := ⟨_, rfl⟩
      rw [← hwo] at HI HB6 HBw
      clear hwo
      go_loopw [9] (fun i wz => ∃ t : Nat, t ≤ j ∧ i = .int .i64 (t : Int) ∧ Below wo.heap.size wo wz) (fun i _ => j - (intOf i).toNat)
      case atStart => exact ⟨0, Nat.zero_le _, rfl, HB6.out⟩
      case round =>
        obtain ⟨wz, hwz⟩ : ∃ wz, wz = wr := ⟨_, rfl⟩
        rw [← hwz] at hrel ⊢
        clear hwz
        obtain ⟨t, ht, rfl, hb⟩ := hrel
        have HBz := Lib.hid hb
        have HBW := Lib.hid (up2 HBw.out hb)
        have HMz := Lib.hid (HMany.out _ (up2 HBw.out hb))
        clear hb
        by_cases hlt : t < j
        · have hjn : (t : Int) < (j : Int) := by omega
          have e1 : IntKind.i64.wrap ((t : Int) + 1) = (t : Int) + 1 := IntWalk.i64_in _ (by omega)
          have htn : t < S.n := by rw [← HMe.out]; exact hlt
          have hnear := HNr.out.near t htn
          have hal := HNr.out.al t htn
          have hhas : S.has (t : Int) = true := by unfold Ct.has; rw [← HMe.out]; simp; omega
          have hAe : S.altA (t : Int) = S.alt t := by unfold Ct.altA; rw [if_pos hhas]; rfl
          rw [← HSm.out, ← HNe.out] at hnear
          have hN0 : 0 ≤ NN := by rw [HNe.out]; exact HF.out.N0
          have hN1 : NN ≤ 9223372036854775807 := by rw [HNe.out]; exact HF.out.N1
          have HAt := Lib.hid (fun (W : World) (q : Below w.heap.size w W) => HAlt.out W q (t : Int))
          rw [hAe] at HAt
          have hmul : 0 ≤ NN * S.alo t := Int.mul_nonneg hN0 hal.1
          have hle : S.alo t ≤ sm := by rw [HSm.out]; exact sumN_term (fun i hi => (HNr.out.al i hi).1) htn
          have hlow : 0 ≤ NN * S.alo t / sm ∧ NN * S.alo t / sm ≤ 9223372036854775807 := by
            refine ⟨Int.ediv_nonneg hmul (by omega), Int.le_trans (Int.ediv_le_of_le_mul (by omega) (Int.mul_le_mul_of_nonneg_left hle hN0)) hN1⟩
          have kv := (ints_up HI.out HBz.out t hlt).1
          obtain ⟨al, hale⟩ : ∃ z, z = S.alo t := ⟨_, rfl⟩
          obtain ⟨at', hate⟩ : ∃ z, z = S.alt t := ⟨_, rfl⟩
          rw [← hate] at hnear HAt
          rw [← hale] at hnear hal kv hlow
          have HPa := Lib.hid (fun (W : World) => part_any NN al sm W (by omega) hN1 hal.1 hal.2 hs1 hs2)
          have HRe := Lib.hid (fun (W : World) => rest_any NN al sm W (by omega) hN1 hal.1 hal.2 hs1 hs2)
          obtain ⟨low, hlow2⟩ : ∃ z, z = NN * al / sm := ⟨_, rfl⟩
          obtain ⟨re, hre⟩ : ∃ z, z = NN * al % sm := ⟨_, rfl⟩
          rw [← hlow2] at hnear HPa hlow
          rw [← hre] at hnear HRe
          rw [show tellV low = low from (by unfold tellV; rw [if_pos (by constructor <;> omega)]), show tellE low = 0 from (by unfold tellE; rw [if_pos (by constructor <;> omega)])] at HPa
          have HKU : Hid (∀ W, Below wz.heap.size wz W → W.cell? ⟨ag, t, none⟩ = some (.int .i64 al)) := Lib.hid fun W q => kcell q kv
          have HPd : Hid (∀ W, Below wz.heap.size wz W → Calls Tryz.prog 16 #[.pointer (some ⟨c, 0, none⟩)] W fun e w' => e = .returned (.int .i64 NN) ∧ Below W.heap.size W w') := Lib.hid fun W q => HPri.out W (up2 HBW.out q)
          have HP1 := Lib.hid (HPd.out _ (Below.refl _ _).drew)
          have HNear := Lib.hid hnear
          clear hhas htn hnear hAe hN0 hN1 hale hate hlow2 hre hal hmul hle
          go_wp2_with fail
          refine HMz.out.mono ?_
          rintro e wy ⟨rfl, hb⟩
          have HBy := Lib.hid (up2 HBz.out hb)
          have HP1 := Lib.hid (HPd.out _ hb.drew)
          have HDr := Lib.hid (fun (W : World) (q : Below wy.drew.heap.size wy.drew W) => up2 hb.drew q)
          have HBo := Lib.hid HBz.out
          have HK1 := Lib.hid (fun (W : World) (q : Below wy.drew.heap.size wy.drew W) => HKU.out W (up2 hb.drew q))
          have hk := HK1.out _ (Below.refl _ _)
          clear hb
          go_wp2_with fail
          have K0 : Hid (wy.drew.cell? ⟨ag, t, none⟩ = some (.int .i64 al)) := Lib.hid hk
          go_region_held3 (fun w' => w'.cell? ⟨ag, t, none⟩ = some (.int .i64 al))
            (first | (go_keep; done) | (with_reducible exact K0.out) | (with_reducible exact kK1.out) | (with_reducible exact kK2.out))
            (first
              | (go_at_call 16; (with_reducible refine (HP1.out).mono ?_); rintro e w7 ⟨rfl, hb⟩; have kB7 := Lib.hid hb; have kK1 := Lib.hid (HK1.out _ hb); clear hb)
              | (go_at_call 58; (with_reducible refine (HPa.out _).mono ?_); rintro e w8 ⟨rfl, hb⟩; have kB8 := Lib.hid (up2 kB7.out hb); have kK2 := Lib.hid (HK1.out _ kB8.out); clear hb))
          all_goals
            have hb8 : Below wz.heap.size wz w8 := HDr.out _ kB8.out
            have HB8 := Lib.hid hb8
            have HP2 := Lib.hid (HPd.out _ hb8.drew)
            have HK2 := Lib.hid (fun (W : World) (q : Below w8.drew.heap.size w8.drew W) => HKU.out W (up2 hb8.drew q))
            have hk2 := HK2.out _ (Below.refl _ _)
            clear hb8
            go_wp2_with fail
            have K3 : Hid (w8.drew.cell? ⟨ag, t, none⟩ = some (.int .i64 al)) := Lib.hid hk2
            go_region_held3 (fun w' => w'.cell? ⟨ag, t, none⟩ = some (.int .i64 al))
              (first | (go_keep; done) | (with_reducible exact K3.out) | (with_reducible exact kK4.out) | (with_reducible exact kK5.out))
              (first
                | (go_at_call 16; (with_reducible refine (HP2.out).mono ?_); rintro e w9 ⟨rfl, hb⟩; have kB9 := Lib.hid hb; have kK4 := Lib.hid (HK2.out _ hb); clear hb)
                | (go_at_call 59; (with_reducible refine (HRe.out _).mono ?_); rintro e wa ⟨rfl, hb⟩; have kBa := Lib.hid (up2 kB9.out hb); have kK5 := Lib.hid (HK2.out _ kBa.out); clear hb))
            all_goals
              have hba : Below wz.heap.size wz wa := up2 HB8.out.drew kBa.out
              have HBa := Lib.hid hba
              have HA1 := Lib.hid (HAt.out _ (up2 HBW.out hba))
              have HA2 : Hid (∀ W, Below wa.heap.size wa W → Calls Tryz.prog 21 #[.pointer (some ⟨c, 0, none⟩), .int .i64 (t : Int)] W fun e w' => e = .returned (.int .i64 at') ∧ Below W.heap.size W w') := Lib.hid fun W q => HAt.out W (up2 (up2 HBW.out hba) q)
              clear hba hk hk2 kv
              by_cases hq : at' = low
              · have b1 : (at' != low) = false := by simpa using hq
                go_wp2_with fail
                refine HA1.out.mono ?_
                rintro e wb ⟨rfl, hb⟩
                have HBb := Lib.hid (up2 (up2 HBo.out HBa.out) hb)
                clear hb
                go_wp2_with fail
                exact ⟨⟨t + 1, by omega, by go_num, HBb.out⟩, by simp [intOf]; omega⟩
              · have hz := HNear.out
                have b1 : (at' != low) = true := by simpa using hq
                have hz1 : re ≠ 0 := by
                  rcases hz with z | z
                  · exact absurd z hq
                  · exact z.1
                have hz2 : at' - 1 = low := by
                  rcases hz with z | z
                  · exact absurd z hq
                  · exact z.2
                have b2 : (re == 0) = false := by simpa using hz1
                have e2 : IntKind.i64.wrap (at' - 1) = low := by rw [hz2]; exact IntWalk.i64_in _ (by omega)
                clear hz
                go_wp2_with fail
                refine HA1.out.mono ?_
                rintro e wb ⟨rfl, hb⟩
                have hBb := up2 HBa.out hb
                have HA3 := Lib.hid (HA2.out _ hb)
                have HBb := Lib.hid (up2 HBo.out hBb)
                clear hb hBb
                go_wp2_with fail
                refine HA3.out.mono ?_
                rintro e wc ⟨rfl, hb⟩
                have HBc := Lib.hid (up2 HBb.out hb)
                clear hb
                go_wp2_with fail
                exact ⟨⟨t + 1, by omega, by go_num, HBc.out⟩, by simp [intOf]; omega⟩
        · obtain rfl : t = j := by omega
          have HMw := Lib.hid (fun (W : World) (q : Below w.heap.size w W) => HMany.out W q)
          have hjn : (0 : Int) < (t : Int) := by omega
          clear hlt
          go_wp2_with fail
          refine HMz.out.mono ?_
          rintro e w7 ⟨rfl, hb⟩
          have HB7 := Lib.hid (up2 HBW.out hb)
          clear hb
          go_wp2_with fail
          refine (HMw.out _ HB7.out).mono ?_
          rintro e w8 ⟨rfl, hb⟩
          have HB8 := Lib.hid (up2 HB7.out hb)
          clear hb
          go_wp2_with fail
          go_ret
          exact ⟨by simp, HB8.out⟩
end Go.Proofs.YtklaonoekmhakaaGreat

namespace Go.Proofs.YtklaonoekmhakaaGreat
open Go.RowKit

set_option maxRecDepth 100000 in
set_option maxHeartbeats 16000000 in
theorem near16_law {Cf : World → World → Nat → Ct → Prop} (K : CfK Cf) (N : CfN Cf) (A : Aw16) (t : Tm) (p : TmP) (a : Option Addr) (cap : Nat) (l : List Op4) (day more : Int) (hmo : Am more) (w : World) (h : TmA w p t) (g : TmG t) (hR : O4A w a l) (hAm : AmP l) :
    Calls Tryz.prog 7 #[t.val p, .slice a l.length cap, .int .i64 day, .int .i64 more] w fun e w' => e = .returned (.bool true) ∧ Below w.heap.size w w' := by
  have HAw := Lib.hid A
  have HLg := Lib.hid (fun (W : World) => large16_any W t p l a cap)
  have HMade := Lib.hid (fun (W : World) (q : Below w.heap.size w W) (q1 : bigT t l = false) => made16_any N (h.up q) g (by unfold bigT at q1; simp at q1; omega) (by unfold bigT at q1; simp at q1; omega))
  have HNe0 : Hid (madeE t = 0 → NearC (askT t).C) := Lib.hid (fun q => by
    unfold madeE at q
    split at q
    · rename_i q1; exact absurd q q1
    · rename_i q1
      exact Askd.near (fine_ofT (by simpa using q1) fun y hy => (g.I y hy).2.2.2) q)
  have HNea := Lib.hid (fun (w0 W : World) (c : Nat) (S : Ct) (h : Cf w0 W c S) (hN : NearC S) => near16_any K h hN)
  have HAf := Lib.hid (fun (w0 W : World) (c : Nat) (S : Ct) (h : Cf w0 W c S) => K.afresh day more h hmo)
  have HLn : Hid (bigT t l = false → l.length ≤ 60) := Lib.hid (fun q1 => by unfold bigT at q1; simp at q1; omega)
  have HDo := Lib.hid (fun (w0 W : World) (c : Nat) (S : Ct) (h : Cf w0 W c S) (x : Op4) (q : Am x.n) => do16_any K h x q)
  unfold MadeR at HMade
  have HK := Lib.hid K
  have HR := Lib.hid hR
  have HAm := Lib.hid hAm
  obtain ⟨n, hn⟩ : ∃ n, n = l.length := ⟨_, rfl⟩
  have HN := Lib.hid hn
  rw [← hn] at HLg HLn ⊢
  obtain ⟨big, hbig⟩ : ∃ b, b = bigT t l := ⟨_, rfl⟩
  rw [← hbig] at HLg HMade HLn
  unfold Tm.val at HLg HMade ⊢
  obtain ⟨C0, hC0⟩ : ∃ C, C = (askT t).C := ⟨_, rfl⟩
  rw [← hC0] at HMade HNe0
  generalize madeE t = me at HMade HNe0
  obtain ⟨I, L, m, b, d⟩ := t
  obtain ⟨ia, ic, la, lc, ma, mc⟩ := p
  simp only at HLg HMade ⊢
  generalize I.length = ni at HLg HMade ⊢
  generalize L.length = nl at HLg HMade ⊢
  generalize m.length = nm at HLg HMade ⊢
  unfold Op4.val at HDo
  clear h g hR hAm hn hbig hC0 K N A hmo
  go_enter Tryz.func7, Tryz.ntmps7
  go_wp2_with fail
  have HXB := Lib.hid (Has.fresh w 26 #[.slice ia ni ic, .slice la nl lc, .slice ma nm mc, .int .i64 b, .int .i64 d])
  refine (HAw.out _).mono ?_
  rintro e w1 ⟨rfl, hb⟩
  have hx := HXB.out.up hb
  have x0 := hx.cell 0
  have x1 := hx.cell 1
  have x2 := hx.cell 2
  have x3 := hx.cell 3
  have x4 := hx.cell 4
  simp at x0 x1 x2 x3 x4
  have HX1 := Lib.hid hx
  have HB1 := Lib.hid (up2 (boxed _ _) hb)
  clear hb hx
  go_wp2_with fail
  refine (HLg.out _).mono ?_
  rintro e w2 ⟨rfl, hb⟩
  have HB2 := Lib.hid (up2 HB1.out hb)
  have hx := HX1.out.up hb
  clear x0 x1 x2 x3 x4
  have x0 := hx.cell 0
  have x1 := hx.cell 1
  have x2 := hx.cell 2
  have x3 := hx.cell 3
  have x4 := hx.cell 4
  simp at x0 x1 x2 x3 x4
  clear hb hx
  cases hq : big with
  | true =>
    clear hq
    go_wp2_with fail
    go_ret
    exact ⟨rfl, HB2.out⟩
  | false =>
  have HM := Lib.hid (HMade.out _ HB2.out hq)
  have hn60 := HLn.out hq
  clear hq
  go_wp2_with fail
  refine HM.out.mono ?_
  rintro e w3 (⟨q, rfl, hb⟩ | ⟨q, w0, c, hb, rfl, hc⟩)
  · have HB3 := Lib.hid (up2 HB2.out hb)
    clear q hb x0 x1 x2 x3 x4
    go_wp2_with fail
    go_ret
    exact ⟨rfl, HB3.out⟩
  have HB0 := Lib.hid (up2 HB2.out hb)
  have HC3 := Lib.hid hc
  have HN3 := Lib.hid (HNea.out _ _ _ _ hc (HNe0.out q))
  clear q hb hc x0 x1 x2 x3 x4
  go_wp2_with fail
  refine HN3.out.mono ?_
  rintro e w4 ⟨rfl, hb⟩
  have HC4 := Lib.hid (HK.out.up HC3.out hb)
  clear hb
  go_wp2_with fail
  go_loopw [30] (fun i wr => ∃ k : Nat, k ≤ n ∧ i = .int .i64 (k : Int) ∧ ∃ S, Cf w0 wr c S) (fun i _ => n - (intOf i).toNat)
  case atStart => exact ⟨0, Nat.zero_le _, rfl, _, HC4.out⟩
  case round =>
    obtain ⟨k, hk, rfl, S, hT⟩ := hrel
    have HT := Lib.hid hT
    have HBr := Lib.hid (up2 HB0.out (HK.out.bel hT))
    clear hT
    by_cases hlt : k < n
    · obtain ⟨y, hy⟩ : ∃ y, l[k]? = some y := ⟨l[k]'(by rw [← HN.out]; exact hlt), List.getElem?_eq_getElem _⟩
      obtain ⟨gb, o, rfl, c0, c1, c2, c3⟩ := o4_at (HR.out.up HBr.out) hy
      have hay := HAm.out y (List.mem_of_getElem? hy)
      have e1 : IntKind.i64.wrap ((k : Int) + 1) = (k : Int) + 1 := IntWalk.i64_in _ (by omega)
      obtain ⟨A, B, C, D⟩ := y
      simp only at c0 c1 c2 c3 hay
      have HTl := Lib.hid (fun (W : World) (q : Below wr.heap.size wr W) => HDo.out _ _ _ _ (HK.out.up HT.out q) ⟨A, B, C, D⟩ hay)
      clear hy hay
      simp only at HTl
      go_wp2_with fail
      refine (HTl.out _ (boxed _ _)).mono ?_
      rintro e w5 ⟨rfl, hs⟩
      have HS5 := Lib.hid hs
      clear hs c0 c1 c2 c3
      go_wp2_with fail
      exact ⟨⟨k + 1, by omega, by go_num, _, HS5.out⟩, by simp [intOf]; omega⟩
    · obtain rfl : k = n := by omega
      have HA5 := Lib.hid (HAf.out _ _ _ _ HT.out)
      have HNf : Hid (S.afrE day more = 0 → NearC (S.afrS day more)) := Lib.hid (FineC.near (HK.out.fine HT.out))
      obtain ⟨X, hX⟩ : ∃ X, X = S.afrE day more := ⟨_, rfl⟩
      rw [← hX] at HA5 HNf
      clear hlt hX
      go_wp2_with fail
      refine HA5.out.mono ?_
      rintro e w5 ⟨rfl, hs⟩
      have HS5 := Lib.hid hs
      clear hs
      by_cases q : X = 0
      · have HN5 := Lib.hid (HNea.out _ _ _ _ HS5.out (HNf.out q))
        have b1 : (X != 0) = false := by simpa using q
        clear q
        go_wp2_with fail
        refine HN5.out.mono ?_
        rintro e w6 ⟨rfl, hb⟩
        have HS6 := Lib.hid (HK.out.up HS5.out hb)
        clear hb
        go_wp2_with fail
        go_ret
        exact ⟨by simp, up2 HB0.out (HK.out.bel HS6.out)⟩
      · have b1 : (X != 0) = true := by simpa using q
        clear q
        go_wp2_with fail
        go_ret
        exact ⟨by simp, up2 HB0.out (HK.out.bel HS5.out)⟩
end Go.Proofs.YtklaonoekmhakaaGreat

namespace Go.Proofs.YtklaonoekmhakaaGreat
open Go.RowKit

theorem near16_core (t : Tm) (p : TmP) (a : Option Addr) (cap : Nat) (l : List Op4) (day more : Int) (hmo : Am more) (w : World) (h : TmA w p t) (g : TmG t) (hR : O4A w a l) (hAm : AmP l) :
    Calls Tryz.prog 7 #[t.val p, .slice a l.length cap, .int .i64 day, .int .i64 more] w fun e w' => e = .returned (.bool true) ∧ Below w.heap.size w w' :=
  near16_law (cfk_of pck) cxnew_any (awake16_any (cfk_of pck) cxnew_any) t p a cap l day more hmo w h g hR hAm
end Go.Proofs.YtklaonoekmhakaaGreat

namespace Go.Proofs.YtklaonoekmhakaaGreat
open Go.RowKit

/-- numbers in a block of ints that is known whole -/
def NsI (w : World) (a : Option Addr) (l : List Int) : Prop := l = [] ∨ ∃ (g : Nat) (cs : Array Value), a = some ⟨g, 0, none⟩ ∧ Has w g 3 cs ∧ ∀ (i : Nat) (k : Int), l[i]? = some k → cs[i]? = some (.int .i64 k)
theorem NsI.keepT {w w' : World} {a : Option Addr} {l : List Int} (h : NsI w a l) (hs : ∀ g cs, Has w g 3 cs → Has w' g 3 cs) : NsI w' a l := by
  rcases h with h | ⟨g, cs, h1, h2, h3⟩
  · exact .inl h
  · exact .inr ⟨g, cs, h1, hs g cs h2, h3⟩
theorem NsI.up {w w' : World} {a : Option Addr} {l : List Int} (h : NsI w a l) (q : Below w.heap.size w w') : NsI w' a l := h.keepT fun _ _ hh => hh.up q
theorem NsI.put {w : World} {a : Option Addr} {l : List Int} (h : NsI w a l) {r T : Nat} {cs : Array Value} (hr : Has w r T cs) (hT : 3 ≠ T) (i : Nat) (v : Value) : NsI (w.setCell ⟨r, i, none⟩ v) a l :=
  h.keepT fun _ _ hh => hh.off (p := ⟨r, i, none⟩) (hh.ne hr hT) v
theorem NsI.ina {w : World} {a : Option Addr} {l : List Int} (h : NsI w a l) : InA w a l := by
  rcases h with h | ⟨g, cs, h1, h2, h3⟩
  · exact .inl h
  · refine .inr ⟨g, 0, h1, fun i x hx j u hu => ?_⟩
    match j, hu with
    | 0, hu =>
      simp [inC] at hu
      rw [h2.cell, show 0 + i * 1 + 0 = i by omega, h3 i x hx, ← hu]
structure QgX (w : World) (r : Nat) (d : Dt) (E : List Tl) (la : Option Addr) (lc : Nat) (tv : Value) : Prop where
  has : Has w r 57 #[.slice la d.ls.length lc, .int .i64 d.al, .int .i64 d.un, .int .i64 d.me, .int .i64 d.fi, .int .i64 d.la, tv]
  own : w.ownsRow 0 145 2 tv E.length (E.flatMap tlC)
  fine : FineT d E
  lns : NsI w la d.ls
def Qg (w : World) (r : Nat) (d : Dt) (E : List Tl) : Prop := ∃ la lc tv, QgX w r d E la lc tv
section
variable {w w' : World} {r : Nat} {d : Dt} {E : List Tl} {la : Option Addr} {lc : Nat} {tv : Value}
theorem QgX.up (h : QgX w r d E la lc tv) (q : Below w.heap.size w w') : QgX w' r d E la lc tv := ⟨h.has.up q, own_up h.own q, h.fine, h.lns.up q⟩
theorem Qg.up (h : Qg w r d E) (q : Below w.heap.size w w') : Qg w' r d E := by obtain ⟨la, lc, tv, h⟩ := h; exact ⟨la, lc, tv, h.up q⟩
theorem Qg.lt (h : Qg w r d E) : r < w.heap.size := by obtain ⟨la, lc, tv, h⟩ := h; exact h.has.lt
theorem Qg.fine (h : Qg w r d E) : FineT d E := by obtain ⟨la, lc, tv, h⟩ := h; exact h.fine
theorem QgX.row (h : QgX w r d E la lc tv) : ∃ a c, tv = .slice a E.length c ∧ TlA w a E := by
  obtain ⟨a, c, e, _⟩ := own_form3 h.own
  subst e
  exact ⟨a, c, rfl, (own_rws tl_len h.own rfl).1⟩
end
section
variable {w : World} {d : Dt} {a : Option Addr} {c : Nat}
set_option maxRecDepth 100000 in
set_option maxHeartbeats 2000000 in
theorem qtn_yes (hd : dtB d = true) (hls : NsI w a d.ls) : Calls Tryz.prog 109 #[d.val a c] w fun e w' => ∃ r, e = .returned (.tuple #[.pointer (some ⟨r, 0, none⟩), .int .i64 0]) ∧ Qg w' r d [] ∧ Below w.heap.size w w' ∧ w.heap.size ≤ r := by
  have hn := dtB_iff.1 hd
  have HF := Lib.hid (FineT.nil hd)
  obtain ⟨ls, al, un, me, fi, la⟩ := d
  unfold Dt.val
  simp only at hn hls ⊢
  have HLs := Lib.hid hls
  obtain ⟨n, hnn⟩ : ∃ n, n = ls.length := ⟨_, rfl⟩
  rw [← hnn]
  have HN := Lib.hid hnn
  have h1 : ¬ me < 0 := by omega
  have h2 : ¬ 3 < me := by omega
  have h3 : ¬ un < 1 := by omega
  have h4 : ¬ fi < 1 := by omega
  have h5 : ¬ la < fi := by omega
  have h6 : ¬ 1000000 < la := by omega
  clear hd hn hnn hls
  go_enter Tryz.func109, Tryz.ntmps109
  go_wp2_with fail
  go_ret2
  refine ⟨_, rfl, ⟨a, c, .slice none 0 0, ?_, World.ownsRow_nil _ _ _ _, HF.out, HLs.out.up (up2 (boxed _ _) (boxed _ _))⟩, up2 (boxed _ _) (boxed _ _), by simp⟩
  rw [← HN.out]
  have := Has.fresh (w.alloc (.cells #[.slice a n c, .int .i64 al, .int .i64 un, .int .i64 me, .int .i64 fi, .int .i64 la] 51)) 57 #[.slice a n c, .int .i64 al, .int .i64 un, .int .i64 me, .int .i64 fi, .int .i64 la, .slice none 0 0]
  rw [show (w.alloc (.cells #[.slice a n c, .int .i64 al, .int .i64 un, .int .i64 me, .int .i64 fi, .int .i64 la] 51)).heap.size = w.heap.size + 1 by simp] at this
  exact this
end
section
variable {w : World} {r : Nat} {d : Dt} {E : List Tl} {la : Option Addr} {lc : Nat} {tv : Value}
set_option maxRecDepth 100000 in
set_option maxHeartbeats 4000000 in
theorem qthr_rat (h : QgX w r d E la lc tv) (day : Int) (m0 : d.me = 0) : Calls Tryz.prog 78 #[.pointer (some ⟨r, 0, none⟩), .int .i64 day] w (ThrR w d E day) := by
  have hd := dtB_iff.1 h.fine.may
  have hv : thrV d E day = if day < d.fi then 0 else min day d.la - d.fi + 1 := by
    unfold thrV; rw [if_neg (by omega), if_neg (by omega), if_neg (by omega)]
    split
    · rfl
    · split <;> omega
  have hw : thrW d = d.la - d.fi + 1 := by unfold thrW; rw [if_neg (by omega), if_neg (by omega), if_neg (by omega)]
  unfold ThrR
  rw [hv, hw]
  have hh := h.has
  obtain ⟨ls, al, un, me, fi, la2⟩ := d
  simp only at hh hd m0 ⊢
  generalize ls.length = n at hh
  have c0 := hh.cell 0
  have c1 := hh.cell 1
  have c2 := hh.cell 2
  have c3 := hh.cell 3
  have c4 := hh.cell 4
  have c5 := hh.cell 5
  simp at c0 c1 c2 c3 c4 c5
  rw [m0] at c3
  have e1 : IntKind.i64.wrap (la2 - fi) = la2 - fi := IntWalk.i64_in _ (by omega)
  have e2 : IntKind.i64.wrap (la2 - fi + 1) = la2 - fi + 1 := IntWalk.i64_in _ (by omega)
  by_cases q : day < fi
  · rw [if_pos q]
    clear h hv hw hh hd m0
    go_enter Tryz.func78, Tryz.ntmps78
    go_wp2_with fail
    go_quiet (fail)
    go_wp2_with fail
    go_ret2
    exact ⟨rfl, blw (boxed _ _) _⟩
  · rw [if_neg q]
    have q' : fi ≤ day := by omega
    have e3 : IntKind.i64.wrap (min day la2 - fi) = min day la2 - fi := IntWalk.i64_in _ (by omega)
    have e4 : IntKind.i64.wrap (min day la2 - fi + 1) = min day la2 - fi + 1 := IntWalk.i64_in _ (by omega)
    clear h hv hw hh hd m0 q
    go_enter Tryz.func78, Tryz.ntmps78
    go_wp2_with fail
    go_quiet (fail)
    go_wp2_with fail
    go_ret2
    exact ⟨rfl, blw (boxed _ _) _⟩
set_option maxRecDepth 100000 in
set_option maxHeartbeats 4000000 in
theorem qthr_point (h : QgX w r d E la lc tv) (day : Int) (m1 : d.me = 1) : Calls Tryz.prog 78 #[.pointer (some ⟨r, 0, none⟩), .int .i64 day] w (ThrR w d E day) := by
  have hv : thrV d E day = if day < d.fi then 0 else 1 := by
    unfold thrV; rw [if_neg (by omega), if_neg (by omega), if_pos m1]
  have hw : thrW d = 1 := by unfold thrW; rw [if_neg (by omega), if_neg (by omega), if_pos m1]
  unfold ThrR
  rw [hv, hw]
  have hh := h.has
  obtain ⟨ls, al, un, me, fi, la2⟩ := d
  simp only at hh m1 ⊢
  generalize ls.length = n at hh
  have c0 := hh.cell 0
  have c1 := hh.cell 1
  have c2 := hh.cell 2
  have c3 := hh.cell 3
  have c4 := hh.cell 4
  have c5 := hh.cell 5
  simp at c0 c1 c2 c3 c4 c5
  rw [m1] at c3
  by_cases q : day < fi
  · rw [if_pos q]
    clear h hv hw hh m1
    go_enter Tryz.func78, Tryz.ntmps78
    go_wp2_with fail
    go_ret2
    exact ⟨rfl, boxed _ _⟩
  · rw [if_neg q]
    have q' : fi ≤ day := by omega
    clear h hv hw hh m1 q
    go_enter Tryz.func78, Tryz.ntmps78
    go_wp2_with fail
    go_ret2
    exact ⟨rfl, boxed _ _⟩
set_option maxRecDepth 100000 in
set_option maxHeartbeats 8000000 in
theorem qthr_told (h : QgX w r d E la lc tv) (day : Int) (m2 : d.me = 2 ∨ d.me = 3) : Calls Tryz.prog 78 #[.pointer (some ⟨r, 0, none⟩), .int .i64 day] w (ThrR w d E day) := by
  have HFine := Lib.hid h.fine
  obtain ⟨ta, tc, rfl, hrow⟩ := h.row
  have HR := Lib.hid hrow
  have hlen := h.fine.len
  have HV2 : Hid (d.me = 2 → thrV d E day = thrM day E ∧ thrW d = 10000) := Lib.hid fun q => by unfold thrV thrW; rw [if_pos q, if_pos q]; exact ⟨rfl, rfl⟩
  have HV3 : Hid (d.me = 3 → thrV d E day = min (thrS day E) d.un ∧ thrW d = d.un) := Lib.hid fun q => by unfold thrV thrW; rw [if_neg (by omega), if_pos q, if_neg (by omega), if_pos q]; exact ⟨rfl, rfl⟩
  unfold ThrR
  obtain ⟨V1, hV1⟩ : ∃ V1, V1 = thrV d E day := ⟨_, rfl⟩
  obtain ⟨V2, hV2⟩ : ∃ V2, V2 = thrW d := ⟨_, rfl⟩
  rw [← hV1, ← hV2] at HV2 HV3
  rw [← hV1, ← hV2]
  have hh := h.has
  obtain ⟨D, hD⟩ : ∃ D, D = d := ⟨_, rfl⟩
  rw [← hD] at HFine
  obtain ⟨ls, al, un, me, fi, la2⟩ := d
  simp only at hh m2 HV2 HV3 ⊢
  generalize ls.length = n0 at hh
  obtain ⟨n, hn⟩ : ∃ n, n = E.length := ⟨_, rfl⟩
  have HN := Lib.hid hn
  rw [← hn] at hh hlen
  have c0 := hh.cell 0
  have c1 := hh.cell 1
  have c2 := hh.cell 2
  have c3 := hh.cell 3
  have c4 := hh.cell 4
  have c5 := hh.cell 5
  have c6 := hh.cell 6
  simp at c0 c1 c2 c3 c4 c5 c6
  have m0' : (me == 0) = false := by simp; omega
  have m1' : (me == 1) = false := by simp; omega
  have HM := Lib.hid m2
  have HC6 := Lib.hid c6
  clear h hrow hh hn m2 hV1 hV2 hD c6
  go_enter Tryz.func78, Tryz.ntmps78
  go_wp2_with fail
  obtain ⟨W0, hW0⟩ : ∃ W0, W0 = w.alloc (.cells #[.slice la n0 lc, .int .i64 al, .int .i64 un, .int .i64 me, .int .i64 fi, .int .i64 la2] 51) := ⟨_, rfl⟩
  have HB0 : Hid (Below w.heap.size w W0) := by rw [hW0]; exact Lib.hid (boxed _ _)
  have HD0 : Hid (Has W0 w.heap.size 51 #[.slice la n0 lc, .int .i64 al, .int .i64 un, .int .i64 me, .int .i64 fi, .int .i64 la2]) := by rw [hW0]; exact Lib.hid (Has.fresh _ _ _)
  rw [← hW0]
  have c6 := kcell HB0.out HC6.out
  have HR0 := Lib.hid (HR.out.up HB0.out)
  clear hW0 c0 c1 c2 c3 c4 c5 m0' m1'
  go_loopw [8, 9, 10] (fun m s i wr => ∃ k : Nat, k ≤ n ∧ i = .int .i64 (k : Int) ∧ m = .int .i64 (thrM day (E.take k)) ∧ s = .int .i64 (thrS day (E.take k)) ∧ wr = W0) (fun _ _ i _ => n - (intOf i).toNat)
  case atStart => exact ⟨0, Nat.zero_le _, rfl, rfl, rfl, rfl⟩
  case round =>
    obtain ⟨k, hk, rfl, rfl, rfl, rfl⟩ := hrel
    by_cases hlt : k < n
    · obtain ⟨x, hx⟩ : ∃ x, E[k]? = some x := ⟨E[k]'(by rw [← HN.out]; exact hlt), List.getElem?_eq_getElem _⟩
      obtain ⟨b, o, rfl, z0, z1⟩ := tl_at HR0.out hx
      have hsm : thrM day (E.take (k + 1)) = max (thrM day (E.take k)) (if x.1 ≤ day then x.2 else 0) := by
        have h0 := thrM_nn day (E.take k)
        rw [List.take_add_one, hx, thrM_app]
        simp only [Option.toList, thrM]
        omega
      have hss : thrS day (E.take (k + 1)) = thrS day (E.take k) + (if x.1 ≤ day then x.2 else 0) := by
        rw [List.take_add_one, hx, thrS_app]
        simp only [Option.toList, thrS]
        omega
      have hE : ∀ j, FineT D (E.take j) := fun j => by
        have h1 := HFine.out
        rw [← List.take_append_drop j E] at h1
        exact h1.front
      have b1 := thrS_bd day (hE (k + 1)).ok
      have s1 := (hE (k + 1)).sum
      have h0 := thrM_nn day (E.take k)
      have e1 : IntKind.i64.wrap ((k : Int) + 1) = (k : Int) + 1 := IntWalk.i64_in _ (by omega)
      have i0 : (0 : Int) ≤ (k : Int) := by omega
      have i1 : (k : Int) < (n : Int) := by omega
      obtain ⟨M, hM⟩ : ∃ M, M = thrM day (E.take k) := ⟨_, rfl⟩
      obtain ⟨S, hS⟩ : ∃ S, S = thrS day (E.take k) := ⟨_, rfl⟩
      rw [← hM] at h0 hsm ⊢
      rw [← hS] at hss ⊢
      obtain ⟨X, Y⟩ := x
      simp only at z0 z1 hsm hss
      have HSm := Lib.hid hsm
      have HSs := Lib.hid hss
      by_cases q : X ≤ day
      · have e2 : IntKind.i64.wrap (S + Y) = S + Y := IntWalk.i64_in _ (by rw [hss, if_pos q] at b1; omega)
        clear hx hsm hss hE b1 s1 hM hS
        go_wp2_with fail
        exact ⟨⟨k + 1, by omega, by go_num, by rw [HSm.out, if_pos q], by rw [HSs.out, if_pos q], trivial⟩, by simp [intOf]; omega⟩
      · clear hx hsm hss hE b1 s1 hM hS
        go_wp2_with fail
        exact ⟨⟨k + 1, by omega, by go_num, by rw [HSm.out, if_neg q]; congr 1; omega, by rw [HSs.out, if_neg q]; congr 1; omega, trivial⟩, by simp [intOf]; omega⟩
    · obtain rfl : k = n := by omega
      have ht : E.take k = E := by rw [HN.out, List.take_length]
      rw [ht]
      clear ht
      have d2 := HD0.out.cell 2
      have d3 := HD0.out.cell 3
      simp at d2 d3
      rcases HM.out with q | q
      · obtain ⟨e1, e2⟩ := HV2.out q
        rw [q] at d3
        have E1 := Lib.hid e1
        have E2 := Lib.hid e2
        clear e1 e2
        go_wp2_with fail
        go_ret2
        exact ⟨by rw [E1.out, E2.out]; rfl, HB0.out⟩
      · obtain ⟨e1, e2⟩ := HV3.out q
        have E1 := Lib.hid e1
        have E2 := Lib.hid e2
        rw [q] at d3
        generalize thrS day E = S at E1
        clear e1 e2
        go_wp2_with fail
        go_region
        all_goals
          go_wp2_with fail
          go_ret2
          exact ⟨by rw [E1.out, E2.out]; rfl, HB0.out.drew⟩
theorem qthr_any (h : Qg w r d E) (day : Int) : Calls Tryz.prog 78 #[.pointer (some ⟨r, 0, none⟩), .int .i64 day] w (ThrR w d E day) := by
  obtain ⟨la, lc, tv, h⟩ := h
  have hd := dtB_iff.1 h.fine.may
  by_cases m0 : d.me = 0
  · exact qthr_rat h day m0
  · by_cases m1 : d.me = 1
    · exact qthr_point h day m1
    · exact qthr_told h day (by omega)
end
end Go.Proofs.YtklaonoekmhakaaGreat
