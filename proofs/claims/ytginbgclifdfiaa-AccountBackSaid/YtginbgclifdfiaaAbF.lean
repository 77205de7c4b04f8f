/- AccountBack, its core. -/
import Derived.Test.YtginbgclifdfiaaAbE
namespace Go.Proofs.Ytginbgclifdfiaa
open Go.RowKit

theorem Am1.kp {O : Nat → Prop} {w w' : World} {B : Nat} {v : Value} {zs : List Int} (h : Am1 w B v zs) (hk : Kp O w w') (hO : ∀ g, v.ownBlock = some g → ¬ O g) : Am1 w' B v zs :=
  own_keep h fun g hg => hk.block g (h.lt hg).2 (hO g hg)
/-- balances of places, through a period -/
def wasL (S : Ld) (ps : List Po) (q : Int) : List Int := ps.map fun x => balV S x.a x.c q
theorem was_get {S : Ld} {ps : List Po} {q : Int} {i : Nat} {x : Po} (h : ps[i]? = some x) : (wasL S ps q)[i]? = some (balV S x.a x.c q) := by
  unfold wasL; rw [List.getElem?_map, h]; rfl
set_option maxRecDepth 100000 in
set_option maxHeartbeats 32000000 in
theorem back_law (w : World) (n : Int) (a : Option Addr) (cap : Nat) (l : List Oq) (x : Oq) (q : Int) (h : OpsA w a l) (hm : l.length ≤ 2932031007400) (hnil : a = none → cap = 0) (hx : OpA w x) :
    Calls Try.prog 6 #[.int .i64 n, .slice a l.length cap, .agg x.cells, .int .i64 q] w fun e w' => e = .returned (.bool true) ∧ Below w.heap.size w w' := by
  obtain ⟨W0, hW0⟩ : ∃ W0, W0 = w.alloc (.cells x.cells 34) := ⟨_, rfl⟩
  have hb0 : Below w.heap.size w W0 := by rw [hW0]; exact boxed _ _
  have hX0 : Has W0 w.heap.size 34 x.cells := by rw [hW0]; exact Has.fresh _ _ _
  have HX0 := Lib.hid hX0
  have HB0 := Lib.hid hb0
  have HW0 := Lib.hid hW0
  have H := Lib.hid (h.up hb0)
  have HXo := Lib.hid (hx.up hb0)
  unfold Oq.cells Oq.v at HW0 ⊢
  clear h hx hb0 hX0 hW0
  go_enter Try.func6, Try.ntmps6
  go_wp2_with fail
  rw [← HW0.out]
  refine (awake_any9 W0).mono ?_
  rintro e w1 ⟨rfl, hb⟩
  have HB1 := Lib.hid hb
  have x0 : w1.cell? ⟨w.heap.size, 0, none⟩ = some (.int .i64 x.d) := kcell hb (HX0.out.cell 0)
  have x1 : w1.cell? ⟨w.heap.size, 1, none⟩ = some (.int .i64 x.q) := kcell hb (HX0.out.cell 1)
  have x2 : w1.cell? ⟨w.heap.size, 2, none⟩ = some (.int .i64 x.i) := kcell hb (HX0.out.cell 2)
  have x3 : w1.cell? ⟨w.heap.size, 3, none⟩ = some (.slice x.a x.ps.length x.cap) := kcell hb (HX0.out.cell 3)
  obtain ⟨a5, c5, w5, happ, hops5, hb5⟩ := app_ops (w := w1) 22 x a cap l (HXo.out.up hb) (H.out.up hb) hm hnil
  have HOps5 := Lib.hid hops5
  have HB5 := Lib.hid hb5
  have HA := Lib.hid happ
  unfold Oq.cells Oq.v at HA
  clear hb happ hops5 hb5
  go_wp2_with (first | (at_builtin; refine wpList_run rfl (.tmp 30) (.tmp 31) 22 rfl _ _ rfl rfl (S := fun u q => .slice a5 (l.length + 1) c5 = u ∧ w5 = q) ⟨_, w5, HA.out, rfl, rfl⟩ ?_; rintro u5 q5 ⟨rfl, rfl⟩) | fail)
  refine (large_any9 n a5 c5 (x :: l) HOps5.out (by simp; omega)).mono ?_
  rintro e w1' ⟨rfl, rfl⟩
  have HB15 := Lib.hid (up2 HB1.out HB5.out)
  have HBw := Lib.hid (up2 HB0.out HB15.out)
  cases hl : largeB n (x :: l)
  · by_cases hn : 1 ≤ n ∧ n ≤ 240
    · obtain ⟨k, rfl⟩ : ∃ k : Nat, n = k := ⟨n.toNat, by omega⟩
      have hlen : l.length ≤ 24 ∧ x.ps.length ≤ 40 := by
        unfold largeB at hl
        simp at hl
        omega
      obtain ⟨hlen, hpl⟩ := hlen
      have HNew := Lib.hid (new_yes (w := w5) k (by omega) (by omega))
      have y0 : w5.cell? ⟨w.heap.size, 0, none⟩ = some (.int .i64 x.d) := kcell HB5.out x0
      have y1 : w5.cell? ⟨w.heap.size, 1, none⟩ = some (.int .i64 x.q) := kcell HB5.out x1
      have y3 : w5.cell? ⟨w.heap.size, 3, none⟩ = some (.slice x.a x.ps.length x.cap) := kcell HB5.out x3
      have HY : Hid (w5.cell? ⟨w.heap.size, 1, none⟩ = some (.int .i64 x.q) ∧ w5.cell? ⟨w.heap.size, 3, none⟩ = some (.slice x.a x.ps.length x.cap)) := ⟨y1, y3⟩
      clear hl x0 x1 x2 x3 y0 y1 y3
      go_wp2_with fail
      refine HNew.out.mono ?_
      rintro e w2 ⟨rfl, h1, h2⟩
      obtain ⟨p, hp⟩ : ∃ p, p = w5.heap.size + 1 := ⟨_, rfl⟩
      rw [← hp] at h1 ⊢
      have K2 : Hid (Sn w5 w2 p ⟨k, 0, []⟩ (Own9 w5 w2)) := ⟨h1, h2, fun b hb => hb.1⟩
      clear h1 h2 hp
      go_wp2_with fail
      go_loopw [43] (fun i wr => ∃ (j : Nat) (S : Ld) (O : Nat → Prop), j ≤ l.length ∧ i = .int .i64 (j : Int) ∧ Sn w5 wr p S O ∧ S.n = k) (fun i _ => l.length - (intOf i).toNat)
      case atStart => exact ⟨0, _, _, Nat.zero_le _, rfl, K2.out, rfl⟩
      case round =>
        obtain ⟨j, S, O, hj, rfl, hS, hSn⟩ := hrel
        have HS := Lib.hid hS
        have HSn := Lib.hid hSn
        clear hS hSn
        by_cases hlt : j < l.length
        · obtain ⟨y, hx⟩ : ∃ x, l[j]? = some x := ⟨l[j], List.getElem?_eq_getElem hlt⟩
          obtain ⟨b, o, rfl, hcell⟩ : ∃ b o, a = some ⟨b, o, none⟩ ∧ (W0.cell? ⟨b, o + j * 4, none⟩ = some (.int .i64 y.d) ∧ W0.cell? ⟨b, o + j * 4 + 1, none⟩ = some (.int .i64 y.q) ∧ W0.cell? ⟨b, o + j * 4 + 2, none⟩ = some (.int .i64 y.i) ∧ W0.cell? ⟨b, o + j * 4 + 3, none⟩ = some y.v) := by
            rcases H.out.2 with h | ⟨b, o, e, h⟩
            · rw [h] at hx; simp at hx
            · exact ⟨b, o, e, h j y hx⟩
          have hbw := up2 HB15.out HS.out.bel
          have d0 := kcell hbw hcell.1
          have d1 := kcell hbw hcell.2.1
          have d2 := kcell hbw hcell.2.2.1
          have d3 := kcell hbw hcell.2.2.2
          unfold Oq.v at d3
          have hox := H.out.1 y (List.mem_of_getElem? hx)
          have hpo := (hox.up HB15.out).1.old HS.out.old
          obtain ⟨W1, hW1⟩ : ∃ W1, W1 = wr.alloc (.cells #[.int .i64 y.d, .int .i64 y.q, .int .i64 y.i, .slice y.a y.ps.length y.cap] 34) := ⟨_, rfl⟩
          have hbx : Below wr.heap.size wr W1 := by rw [hW1]; exact boxed _ _
          have hX : Has W1 wr.heap.size 34 #[.int .i64 y.d, .int .i64 y.q, .int .i64 y.i, .slice y.a y.ps.length y.cap] := by rw [hW1]; exact Has.fresh _ _ _
          have x0 := hX.cell 0
          have x1 := hX.cell 1
          have x2 := hX.cell 2
          have x3 := hX.cell 3
          have HSW := Lib.hid (HS.out.up hbx)
          have HDo := Lib.hid (do_any9 y HSW.out.lg (hox.up (up2 hbw hbx)) hpo)
          unfold Oq.cells Oq.v at HDo
          have HW1 := Lib.hid hW1
          clear hx hcell hbw hox hpo hW1 hbx hX
          go_wp2_with fail
          rw [← HW1.out]
          refine HDo.out.mono ?_
          rintro e w3 ⟨rfl, hr⟩
          have HSN := Lib.hid (HSW.out.on hr)
          clear hr x0 x1 x2 x3 d0 d1 d2 d3
          go_wp2_with fail
          go_roundw
          case rel => exact ⟨j + 1, _, _, by omega, by go_num, HSN.out, (opS_n S y).trans HSn.out⟩
          case measure => simp [intOf]; omega
        · obtain rfl : j = l.length := by omega
          have hSn := HSn.out
          subst hSn
          obtain ⟨wo, rfl⟩ : ∃ wo, wo = wr := ⟨_, rfl⟩
          have hF := HS.out.lg.fine
          have HF := Lib.hid hF
          have v3 := kcell HS.out.bel HY.out.2
          have hpsa : PsA wo x.a x.ps := ((HXo.out.1.up HB15.out).up HS.out.bel)
          have HP := Lib.hid hpsa
          have HAms := Lib.hid HXo.out.2
          have e1 : IntKind.i64.wrap ((S.n : Int) - 1) = (S.n : Int) - 1 := IntWalk.i64_in _ (by omega)
          clear hF hpsa hlt
          go_wp2_with fail
          go_loopw [13, 15, 54] (fun v13 _ i wr => ∃ j : Nat, j ≤ x.ps.length ∧ i = .int .i64 (j : Int) ∧ Am1 wr wo.heap.size v13 ((wasL S x.ps ((S.n : Int) - 1)).take j) ∧ Below wo.heap.size wo wr) (fun _ _ i _ => x.ps.length - (intOf i).toNat)
          case atStart => exact ⟨0, Nat.zero_le _, rfl, Am1.empty _ _, Below.refl _ _⟩
          case round =>
            obtain ⟨j, hj, rfl, h1, h2⟩ := hrel
            have HWas := Lib.hid h1
            have HBr := Lib.hid h2
            clear h1 h2
            by_cases hlt : j < x.ps.length
            · obtain ⟨y, hy⟩ : ∃ y, x.ps[j]? = some y := ⟨x.ps[j], List.getElem?_eq_getElem hlt⟩
              obtain ⟨b, o, hxa, hcell⟩ : ∃ b o, x.a = some ⟨b, o, none⟩ ∧ (wo.cell? ⟨b, o + j * 3, none⟩ = some (.int .i64 y.a) ∧ wo.cell? ⟨b, o + j * 3 + 1, none⟩ = some (.int .i64 y.c) ∧ wo.cell? ⟨b, o + j * 3 + 2, none⟩ = some (.int .i64 y.m)) := by
                rcases HP.out with h | ⟨b, o, e, h⟩
                · rw [h] at hy; simp at hy
                · exact ⟨b, o, e, h j y hy⟩
              have d0 := kcell HBr.out hcell.1
              have d1 := kcell HBr.out hcell.2.1
              have d2 := kcell HBr.out hcell.2.2
              have hym := HAms.out y (List.mem_of_getElem? hy)
              obtain ⟨W1, hW1⟩ : ∃ W1, W1 = wr.alloc (.cells #[.int .i64 y.a, .int .i64 y.c, .int .i64 y.m] 48) := ⟨_, rfl⟩
              have hbx : Below wr.heap.size wr W1 := by rw [hW1]; exact boxed _ _
              have hX : Has W1 wr.heap.size 48 #[.int .i64 y.a, .int .i64 y.c, .int .i64 y.m] := by rw [hW1]; exact Has.fresh _ _ _
              have z0 : W1.cell? ⟨wr.heap.size, 0, none⟩ = some (.int .i64 y.a) := hX.cell 0
              have z1 : W1.cell? ⟨wr.heap.size, 1, none⟩ = some (.int .i64 y.c) := hX.cell 1
              have hsl := HS.out.up HBr.out
              have HBal := Lib.hid (balance_any y.a y.c ((S.n : Int) - 1) (hsl.up hbx).lg hym.1 hym.2.1)
              have HEnd : Hid (∀ wt, Below W1.heap.size W1 wt → ∃ v1' w6, (Builtin.append_ #[55, 55] 55 #[u13, .slice (some ⟨wt.heap.size, 0, none⟩) 1 1]).run Try.prog (wt.alloc (.cells #[.int .i64 (balV S y.a y.c ((S.n : Int) - 1))] 2)) = .ok v1' w6 ∧
                  Am1 w6 wo.heap.size v1' ((wasL S x.ps ((S.n : Int) - 1)).take (j + 1)) ∧ Below wo.heap.size wo w6) := fun wt hbt => by
                have hb2 : Below wr.heap.size wr (wt.alloc (.cells #[.int .i64 (balV S y.a y.c ((S.n : Int) - 1))] 2)) := (up2 hbx hbt).alloc ((up2 hbx hbt).size) _
                have hT2 := HWas.out.up hb2
                have hsz := HBr.out.size
                obtain ⟨v1', w6, happ, hA⟩ := app_one 55 hT2 (by have := hb2.size; omega) (by rw [List.length_take]; omega) ((Has.fresh wt 2 #[.int .i64 (balV S y.a y.c ((S.n : Int) - 1))]).cell 0)
                refine ⟨v1', w6, happ, ?_, ?_⟩
                · rw [List.take_add_one, was_get hy]; exact hA.1
                · exact (up2 HBr.out hb2).grown hA.2.1 (by have := hb2.size; omega) (fun g hg => (hT2.lt hg).1)
              have HW1 := Lib.hid hW1
              rw [hxa]
              clear hy hcell hym hW1 hbx hX hsl
              go_wp2_with fail
              rw [← HW1.out]
              refine HBal.out.mono ?_
              rintro e wt ⟨rfl, hbt⟩
              obtain ⟨v1', w6, happ, hT6, hB6⟩ := HEnd.out wt hbt
              have HA6 := Lib.hid happ
              have HT6 := Lib.hid hT6
              have HB6 := Lib.hid hB6
              clear hbt happ hT6 hB6 d0 d1 d2 z0 z1
              go_wp2_with (first | (at_builtin; refine wpList_run rfl (.tmp 58) (.tmp 67) 55 rfl _ _ rfl rfl (S := fun u q => v1' = u ∧ w6 = q) ⟨v1', w6, HA6.out, rfl, rfl⟩ ?_; rintro u6 q6 ⟨rfl, rfl⟩) | fail)
              go_roundw
              case rel => exact ⟨j + 1, by omega, by go_num, HT6.out, HB6.out⟩
              case measure => simp [intOf]; omega
            · obtain rfl : j = x.ps.length := by omega
              have hwas := HWas.out
              rw [List.take_of_length_le (by unfold wasL; simp)] at hwas
              have HWs := Lib.hid hwas
              have HS5 := Lib.hid (HS.out.up HBr.out)
              have u3 := kcell HBr.out v3
              have u1 := kcell HBr.out (kcell HS.out.bel HY.out.1)
              have HPost := Lib.hid (post_any x.q x.a x.ps.length x.cap x.ps HS5.out.lg (HP.out.up HBr.out) rfl HAms.out (((HXo.out.1.up HB15.out)).old HS.out.old))
              obtain ⟨wp, rfl⟩ : ∃ wp, wp = wr := ⟨_, rfl⟩
              clear hwas hlt
              by_cases hE : postE S x.q x.ps = 0
              · have hN : postN S x.q x.ps = S.L.length := by unfold postN; rw [if_pos hE]
                have hSS : postS S x.q x.ps = posted S x.q x.ps := by unfold postS; rw [if_pos hE]
                have HE := Lib.hid hE
                unfold PostR at HPost
                rw [hE, hN, hSS] at HPost
                clear hE hN hSS
                go_wp2_with fail
                refine HPost.out.mono ?_
                rintro e w6 ⟨rfl, hr⟩
                have HS6 := Lib.hid (HS5.out.on hr)
                have HK6 := Lib.hid hr.2
                have HRev := Lib.hid (reverse_any (S.L.length : Int) q HS6.out.lg)
                clear hr u1
                by_cases hE2 : revE (posted S x.q x.ps) (S.L.length : Int) q = 0
                · obtain ⟨b1, b2, b3⟩ := back_rev hE2
                  obtain ⟨t1, t2⟩ := back_twice (S := S) (p := x.q) (q := q) (ps := x.ps) (r := (S.n : Int) - 1)
                  have hbb := back_bal HF.out HE.out b1 S.L.length (S.L.length + 1)
                  rw [← b2] at t1 t2 hbb
                  obtain ⟨S2, hS2⟩ : ∃ S2, S2 = revS (posted S x.q x.ps) (S.L.length : Int) q := ⟨_, rfl⟩
                  unfold RevR at HRev
                  rw [hE2, b3] at HRev
                  rw [← hS2] at HRev t1 t2 hbb
                  have HBb := Lib.hid hbb
                  have HT1 := Lib.hid t1
                  have HT2 := Lib.hid t2
                  have hfew := HF.out.few
                  have e2 : IntKind.i64.wrap ((S.L.length : Int) + 1) = (S.L.length : Int) + 1 := IntWalk.i64_in _ (by omega)
                  clear hE2 b1 b2 b3 t1 t2 hbb hS2
                  go_wp2_with fail
                  refine HRev.out.mono ?_
                  rintro e w7 ⟨rfl, hr⟩
                  have HS7 := Lib.hid (HS6.out.on hr)
                  have hw6 : Am1 w6 wo.heap.size u13 (wasL S x.ps ((S.n : Int) - 1)) := HWs.out.kp HK6.out (fun g hg hO => by have := HS.out.lg.bd _ hO; have := (HWs.out.lt hg).1; omega)
                  have hw7 : Am1 w7 wo.heap.size u13 (wasL S x.ps ((S.n : Int) - 1)) := hw6.kp hr.2 (fun g hg hO => by
                    have h1 := (HWs.out.lt hg)
                    rcases hO with hO | hO
                    · have := HS.out.lg.bd _ hO; omega
                    · omega)
                  obtain ⟨aw, cw, rfl, _, hwc⟩ := hw7.form
                  have hlw : (wasL S x.ps ((S.n : Int) - 1)).length = x.ps.length := by unfold wasL; simp
                  rw [hlw]
                  have HWc := Lib.hid hwc
                  have q3 := kcell HS7.out.bel HY.out.2
                  have HP7 := Lib.hid ((HXo.out.1.up HB15.out).up HS7.out.bel)
                  clear hr hw6 hw7 hwc u3 v3
                  go_wp2_with fail
                  go_loopw [20, 21, 97] (fun _ _ i wr => ∃ j : Nat, j ≤ x.ps.length ∧ i = .int .i64 (j : Int) ∧ Below w7.heap.size w7 wr) (fun _ _ i _ => x.ps.length - (intOf i).toNat)
                  case atStart => exact ⟨0, Nat.zero_le _, rfl, Below.refl _ _⟩
                  case round =>
                    obtain ⟨j, hj, rfl, h2⟩ := hrel
                    have HBr2 := Lib.hid h2
                    clear h2
                    by_cases hlt : j < x.ps.length
                    · obtain ⟨y, hy⟩ : ∃ y, x.ps[j]? = some y := ⟨x.ps[j], List.getElem?_eq_getElem hlt⟩
                      obtain ⟨b, o, hxa, hcell⟩ : ∃ b o, x.a = some ⟨b, o, none⟩ ∧ (w7.cell? ⟨b, o + j * 3, none⟩ = some (.int .i64 y.a) ∧ w7.cell? ⟨b, o + j * 3 + 1, none⟩ = some (.int .i64 y.c) ∧ w7.cell? ⟨b, o + j * 3 + 2, none⟩ = some (.int .i64 y.m)) := by
                        rcases HP7.out with h | ⟨b, o, e, h⟩
                        · rw [h] at hy; simp at hy
                        · exact ⟨b, o, e, h j y hy⟩
                      obtain ⟨gw, rfl, hgw⟩ : ∃ gw, aw = some ⟨gw, 0, none⟩ ∧ w7.cell? ⟨gw, j, none⟩ = some (.int .i64 (balV S y.a y.c ((S.n : Int) - 1))) := by
                        rcases HWc.out with h | ⟨g, e, h⟩
                        · rw [h] at hlw; simp at hlw; omega
                        · exact ⟨g, e, h j _ (was_get hy)⟩
                      have d0 := kcell HBr2.out hcell.1
                      have d1 := kcell HBr2.out hcell.2.1
                      have d2 := kcell HBr2.out hcell.2.2
                      have hym := HAms.out y (List.mem_of_getElem? hy)
                      obtain ⟨W1, hW1⟩ : ∃ W1, W1 = wr.alloc (.cells #[.int .i64 y.a, .int .i64 y.c, .int .i64 y.m] 48) := ⟨_, rfl⟩
                      have hbx : Below wr.heap.size wr W1 := by rw [hW1]; exact boxed _ _
                      have hX : Has W1 wr.heap.size 48 #[.int .i64 y.a, .int .i64 y.c, .int .i64 y.m] := by rw [hW1]; exact Has.fresh _ _ _
                      have z0 : W1.cell? ⟨wr.heap.size, 0, none⟩ = some (.int .i64 y.a) := hX.cell 0
                      have z1 : W1.cell? ⟨wr.heap.size, 1, none⟩ = some (.int .i64 y.c) := hX.cell 1
                      have zw : W1.cell? ⟨gw, j, none⟩ = some (.int .i64 (balV S y.a y.c ((S.n : Int) - 1))) := kcell (up2 HBr2.out hbx) hgw
                      have hsl := (HS7.out.up (up2 HBr2.out hbx)).lg.drew
                      have HBal : Hid (Calls Try.prog 21 #[.pointer (some ⟨p, 0, none⟩), .int .i64 y.a, .int .i64 y.c, .int .i64 ((S.n : Int) - 1)] W1.drew fun e w' => e = .returned (.int .i64 (balV S y.a y.c ((S.n : Int) - 1))) ∧ (w'.cell? ⟨wr.heap.size, 0, none⟩ = some (.int .i64 y.a) ∧ w'.cell? ⟨wr.heap.size, 1, none⟩ = some (.int .i64 y.c) ∧ w'.cell? ⟨gw, j, none⟩ = some (.int .i64 (balV S y.a y.c ((S.n : Int) - 1)))) ∧ Below w7.heap.size w7 w') := by
                        refine (balance_any y.a y.c ((S.n : Int) - 1) hsl hym.1 hym.2.1).mono ?_
                        rintro e w8 ⟨rfl, hb8⟩
                        have hb8' : Below W1.heap.size W1 w8 := (Below.refl _ _).drew.trans hb8
                        exact ⟨by rw [HBb.out y.a y.c], ⟨kcell hb8' z0, kcell hb8' z1, kcell hb8' zw⟩, up2 (up2 HBr2.out hbx) hb8'⟩
                      have HW1 := Lib.hid hW1
                      have i1 : (0 : Int) ≤ (j : Int) := by omega
                      have i2 : (j : Int) < (x.ps.length : Int) := by omega
                      have i3 : ((j : Int)).toNat = j := by omega
                      rw [hxa]
                      clear hy hcell hym hW1 hbx hX hsl hgw
                      go_wp2_with fail
                      rw [← HW1.out]
                      go_region_held3 (fun w' => w'.cell? ⟨wr.heap.size, 0, none⟩ = some (.int .i64 y.a) ∧ w'.cell? ⟨wr.heap.size, 1, none⟩ = some (.int .i64 y.c) ∧ w'.cell? ⟨gw, j, none⟩ = some (.int .i64 (balV S y.a y.c ((S.n : Int) - 1))))
                        (first | (go_keep; done) | exact g1)
                        (first | (go_at_call 21; ((with_reducible refine HBal.out.mono ?_); rintro e w8 ⟨rfl, g1, g2⟩; have G2 := Lib.hid g2; clear g2)))
                      all_goals
                        clear z0 z1 zw d0 d1 d2
                        go_wp2_with fail
                        go_roundw
                        case rel => exact ⟨j + 1, by omega, by go_num, G2.out⟩
                        case measure => simp [intOf]; omega
                    · obtain rfl : j = x.ps.length := by omega
                      have HS8 := Lib.hid (HS7.out.up HBr2.out)
                      have HR1 := Lib.hid (reverse_any (S.L.length : Int) ((S.n : Int) - 1) HS8.out.lg)
                      unfold RevR at HR1
                      obtain ⟨r1, r2⟩ := rev_not HT1.out (by omega)
                      rw [HT1.out, r1, r2] at HR1
                      clear r1 r2 hlt
                      go_wp2_with fail
                      refine HR1.out.mono ?_
                      rintro e w9 ⟨rfl, hr⟩
                      have HS9 := Lib.hid (HS8.out.on hr)
                      have HR2 := Lib.hid (reverse_any ((S.L.length : Int) + 1) ((S.n : Int) - 1) HS9.out.lg)
                      unfold RevR at HR2
                      obtain ⟨r1, r2⟩ := rev_not HT2.out (by omega)
                      rw [HT2.out, r1, r2] at HR2
                      clear r1 r2 hr
                      go_wp2_with fail
                      refine HR2.out.mono ?_
                      rintro e w10 ⟨rfl, hr⟩
                      have HS10 := Lib.hid (HS9.out.on hr)
                      clear hr
                      go_wp2_with fail
                      go_ret
                      exact ⟨rfl, HBw.out.trans (HS10.out.bel.mono HBw.out.size)⟩
                · obtain ⟨r1, r2⟩ := rev_not (S := posted S x.q x.ps) rfl hE2
                  unfold RevR at HRev
                  rw [r1, r2] at HRev
                  have hz : (revE (posted S x.q x.ps) (S.L.length : Int) q != 0) = true := by simpa using hE2
                  clear hE2 r1 r2
                  go_wp2_with fail
                  refine HRev.out.mono ?_
                  rintro e w7 ⟨rfl, hr⟩
                  have HS7 := Lib.hid (HS6.out.on hr)
                  clear hr
                  go_wp2_with fail
                  go_ret
                  exact ⟨rfl, HBw.out.trans (HS7.out.bel.mono HBw.out.size)⟩
              · have hN : postN S x.q x.ps = 0 := by unfold postN; rw [if_neg hE]
                unfold PostR at HPost
                rw [hN] at HPost
                have hz : (postE S x.q x.ps != 0) = true := by simpa using hE
                clear hE hN
                go_wp2_with fail
                refine HPost.out.mono ?_
                rintro e w6 ⟨rfl, hr⟩
                have HS6 := Lib.hid (HS5.out.on hr)
                clear hr u1 u3
                go_wp2_with fail
                go_ret
                exact ⟨rfl, HBw.out.trans (HS6.out.bel.mono HBw.out.size)⟩
    · have HNew := Lib.hid (new_no (w := w5) n (by omega))
      go_wp2_with fail
      refine HNew.out.mono ?_
      rintro e w2 ⟨rfl, rfl⟩
      go_wp2_with fail
      go_ret
      exact ⟨rfl, HBw.out⟩
  · go_wp2_with fail
    go_ret
    exact ⟨rfl, HBw.out⟩
end Go.Proofs.Ytginbgclifdfiaa
