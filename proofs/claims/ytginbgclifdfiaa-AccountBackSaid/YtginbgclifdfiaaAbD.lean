/- AccountClosed, its core. -/
import Derived.Test.YtginbgclifdfiaaAbC
namespace Go.Proofs.Ytginbgclifdfiaa
open Go.RowKit

/-- through a period nothing has changed -/
def SameTo (q : Int) (S S' : Ld) : Prop := (∀ a c lo hi : Int, hi ≤ q → rng a c lo hi S'.L = rng a c lo hi S.L) ∧ S.op ≤ S'.op ∧ S'.n = S.n
theorem SameTo.refl (q : Int) (S : Ld) : SameTo q S S := ⟨fun _ _ _ _ _ => rfl, Nat.le_refl _, rfl⟩
theorem SameTo.trans {q : Int} {S S' S'' : Ld} (h : SameTo q S S') (k : SameTo q S' S'') : SameTo q S S'' :=
  ⟨fun a c lo hi hq => (k.1 a c lo hi hq).trans (h.1 a c lo hi hq), Nat.le_trans h.2.1 k.2.1, k.2.2.trans h.2.2⟩
theorem posted_same {S : Ld} {p q : Int} {ps : List Po} (hq : q < S.op) (hp : postE S p ps = 0) : SameTo q S (posted S p ps) := by
  obtain ⟨_, _, _, ho, _⟩ := postE_zero hp
  refine ⟨fun a c lo hi hh => ?_, Nat.le_refl _, rfl⟩
  show rng a c lo hi (S.L ++ [_]) = _
  rw [rng_append, rng_one, if_neg (by omega), Int.add_zero]
theorem opS_closed {S : Ld} {x : Oq} {q : Int} (hq : q < S.op) : SameTo q S (opS S x) := by
  unfold opS
  by_cases h0 : x.d = 0
  · rw [if_pos h0]
    unfold postS
    by_cases hp : postE S x.q x.ps = 0
    · rw [if_pos hp]; exact posted_same hq hp
    · rw [if_neg hp]; exact SameTo.refl _ _
  · rw [if_neg h0]
    by_cases h1 : x.d = 1
    · rw [if_pos h1]
      by_cases hr : revE S x.i x.q = 0
      · obtain ⟨e, _, _, _, _, hp, hs⟩ := rev_some hr
        rw [hs]
        have h2 := posted_same hq hp
        exact ⟨fun a c lo hi hh => by rw [rng_turned]; exact h2.1 a c lo hi hh, h2.2.1, h2.2.2⟩
      · unfold revS; rw [if_neg hr]; exact SameTo.refl _ _
    · rw [if_neg h1]
      unfold cloS
      split
      · exact ⟨fun _ _ _ _ _ => rfl, Nat.le_succ _, rfl⟩
      · exact SameTo.refl _ _
theorem SameTo.mov {q : Int} {S S' : Ld} (h : SameTo q S S') (a c : Int) : movV S' a c q = movV S a c q := by
  unfold movV; rw [h.2.2, h.1 a c q q (Int.le_refl _)]
theorem SameTo.bal {q : Int} {S S' : Ld} (h : SameTo q S S') (a c : Int) : balV S' a c q = balV S a c q := by
  unfold balV; rw [h.2.2, h.1 a c 0 q (Int.le_refl _)]
theorem SameTo.tot {q : Int} {S S' : Ld} (h : SameTo q S S') (a : Int) : totV S' a q = totV S a q ∧ totE S' a q = totE S a q := by
  have hx : totX S' a q = totX S a q := by
    unfold totX
    exact sumTo_congr 40 fun i _ => h.1 a i 0 q (Int.le_refl _)
  have he : totE S' a q = totE S a q := by unfold totE; rw [h.2.2, hx]
  exact ⟨by unfold totV; rw [he, hx], he⟩
/-- what is let in is of an open period -/
theorem opN_entry {S : Ld} {x : Oq} (hd : x.d = 0 ∨ x.d = 1) (hE : opE S x = 0) : ∃ e : En, opN S x = S.L.length ∧ (opS S x).L[S.L.length]? = some e ∧ (S.op : Int) ≤ e.per := by
  unfold opE at hE
  unfold opN opS
  rcases hd with h0 | h1
  · rw [if_pos h0] at hE ⊢
    rw [if_pos h0]
    obtain ⟨_, _, _, ho, _⟩ := postE_zero hE
    refine ⟨⟨x.q, x.ps, false⟩, by unfold postN; rw [if_pos hE], ?_, ho⟩
    unfold postS; rw [if_pos hE]
    show (S.L ++ [_])[S.L.length]? = _
    simp
  · have h0 : ¬ x.d = 0 := by omega
    rw [if_neg h0, if_pos h1] at hE ⊢
    rw [if_neg h0, if_pos h1]
    obtain ⟨e, _, _, _, _, hp, hs⟩ := rev_some hE
    obtain ⟨_, _, _, ho, _⟩ := postE_zero hp
    refine ⟨turn ⟨x.q, negP e.ps, false⟩, by unfold revN; rw [if_pos hE], ?_, ho⟩
    rw [hs]
    show (((S.L ++ [_]).modify _ turn).modify S.L.length turn)[S.L.length]? = _
    rw [List.getElem?_modify, List.getElem?_modify]
    simp only [if_true]
    have e1 : (S.L ++ [(⟨x.q, negP e.ps, false⟩ : En)])[S.L.length]? = some ⟨x.q, negP e.ps, false⟩ := by simp
    rw [e1]
    by_cases q : x.i.toNat = S.L.length
    · simp [q]; rfl
    · simp [q]

set_option maxRecDepth 100000 in
set_option maxHeartbeats 32000000 in
theorem closed_law (w : World) (n : Int) (a : Option Addr) (cap : Nat) (l : List Oq) (a' : Option Addr) (cap' : Nat) (l' : List Oq) (who con q : Int) (h : OpsA w a l) (hm : l.length ≤ 1000000000000000) (h' : OpsA w a' l') (hm' : l'.length ≤ 1000000000000000) (hw : Am who) (hc : Am con) :
    Calls Try.prog 5 #[.int .i64 n, .slice a l.length cap, .slice a' l'.length cap', .int .i64 who, .int .i64 con, .int .i64 q] w fun e w' => e = .returned (.bool true) ∧ Below w.heap.size w w' := by
  have H := Lib.hid h
  have H' := Lib.hid h'
  have HWo := Lib.hid hw
  have HC := Lib.hid hc
  clear h h' hw hc
  go_enter Try.func5, Try.ntmps5
  go_wp2_with fail
  refine (awake_any9 w).mono ?_
  rintro e w1 ⟨rfl, hb⟩
  have HB1 := Lib.hid hb
  clear hb
  go_wp2_with fail
  refine (large_any9 n a cap l (H.out.up HB1.out) hm).mono ?_
  rintro e w1' ⟨rfl, rfl⟩
  cases hl : largeB n l
  · go_wp2_with fail
    refine (large_any9 n a' cap' l' (H'.out.up HB1.out) hm').mono ?_
    rintro e w1' ⟨rfl, rfl⟩
    cases hl' : largeB n l'
    · by_cases hn : 1 ≤ n ∧ n ≤ 240
      · obtain ⟨k, rfl⟩ : ∃ k : Nat, n = k := ⟨n.toNat, by omega⟩
        have hlen : l.length ≤ 24 := by
          unfold largeB at hl
          simp at hl
          omega
        have hlen' : l'.length ≤ 24 := by
          unfold largeB at hl'
          simp at hl'
          omega
        have HNew := Lib.hid (new_yes (w := w1) k (by omega) (by omega))
        clear hl hl' hm hm'
        go_wp2_with fail
        refine HNew.out.mono ?_
        rintro e w2 ⟨rfl, h1, h2⟩
        obtain ⟨p, hp⟩ : ∃ p, p = w1.heap.size + 1 := ⟨_, rfl⟩
        rw [← hp] at h1 ⊢
        have K2 : Hid (Sn w1 w2 p ⟨k, 0, []⟩ (Own9 w1 w2)) := ⟨h1, h2, fun b hb => hb.1⟩
        clear h1 h2 hp
        go_wp2_with fail
        go_loopw [50] (fun i wr => ∃ (j : Nat) (S : Ld) (O : Nat → Prop), j ≤ l.length ∧ i = .int .i64 (j : Int) ∧ Sn w1 wr p S O) (fun i _ => l.length - (intOf i).toNat)
        case atStart => exact ⟨0, _, _, Nat.zero_le _, rfl, K2.out⟩
        case round =>
          obtain ⟨j, S, O, hj, rfl, hS⟩ := hrel
          have HS := Lib.hid hS
          clear hS
          by_cases hlt : j < l.length
          · obtain ⟨x, hx⟩ : ∃ x, l[j]? = some x := ⟨l[j], List.getElem?_eq_getElem hlt⟩
            obtain ⟨b, o, rfl, hcell⟩ : ∃ b o, a = some ⟨b, o, none⟩ ∧ (w.cell? ⟨b, o + j * 4, none⟩ = some (.int .i64 x.d) ∧ w.cell? ⟨b, o + j * 4 + 1, none⟩ = some (.int .i64 x.q) ∧ w.cell? ⟨b, o + j * 4 + 2, none⟩ = some (.int .i64 x.i) ∧ w.cell? ⟨b, o + j * 4 + 3, none⟩ = some x.v) := by
              rcases H.out.2 with h | ⟨b, o, e, h⟩
              · rw [h] at hx; simp at hx
              · exact ⟨b, o, e, h j x hx⟩
            have hbw := up2 HB1.out HS.out.bel
            have d0 := kcell hbw hcell.1
            have d1 := kcell hbw hcell.2.1
            have d2 := kcell hbw hcell.2.2.1
            have d3 := kcell hbw hcell.2.2.2
            unfold Oq.v at d3
            have hox := H.out.1 x (List.mem_of_getElem? hx)
            have hpo := (hox.up HB1.out).1.old HS.out.old
            obtain ⟨W1, hW1⟩ : ∃ W1, W1 = wr.alloc (.cells #[.int .i64 x.d, .int .i64 x.q, .int .i64 x.i, .slice x.a x.ps.length x.cap] 34) := ⟨_, rfl⟩
            have hbx : Below wr.heap.size wr W1 := by rw [hW1]; exact boxed _ _
            have hX : Has W1 wr.heap.size 34 #[.int .i64 x.d, .int .i64 x.q, .int .i64 x.i, .slice x.a x.ps.length x.cap] := by rw [hW1]; exact Has.fresh _ _ _
            have x0 := hX.cell 0
            have x1 := hX.cell 1
            have x2 := hX.cell 2
            have x3 := hX.cell 3
            have HSW := Lib.hid (HS.out.up hbx)
            have HDo := Lib.hid (do_any9 x HSW.out.lg (hox.up (up2 hbw hbx)) hpo)
            unfold Oq.cells Oq.v at HDo
            have HW1 := Lib.hid hW1
            clear hx hcell hbw hox hpo hW1 hbx hX
            go_wp2_with fail
            rw [← HW1.out]
            refine HDo.out.mono ?_
            rintro e w3 ⟨rfl, hr⟩
            have HSN := Lib.hid (HSW.out.on hr)
            clear hr x0 x1 x2 x3 d0 d1 d2 d3
            go_wp2_with fail
            go_roundw
            case rel => exact ⟨j + 1, _, _, by omega, by go_num, HSN.out⟩
            case measure => simp [intOf]; omega
          · obtain rfl : j = l.length := by omega
            obtain ⟨wo, rfl⟩ : ∃ wo, wo = wr := ⟨_, rfl⟩
            have HOpen := Lib.hid (open_any HS.out.lg)
            clear hlt
            by_cases hq : (S.op : Int) ≤ q
            · go_wp2_with fail
              refine HOpen.out.mono ?_
              rintro e wx ⟨rfl, rfl⟩
              go_wp2_with fail
              go_ret
              exact ⟨rfl, up2 HB1.out HS.out.bel⟩
            · have hq' : ¬ ((S.op : Int) ≤ q) := hq
              have HQ : Hid (q < S.op) := by show _ < _; omega
              clear hq
              go_wp2_with fail
              refine HOpen.out.mono ?_
              rintro e wx ⟨rfl, rfl⟩
              have HMov := Lib.hid (moved_any who con q HS.out.lg HWo.out HC.out)
              have HBal := Lib.hid (balance_any who con q HS.out.lg HWo.out HC.out)
              go_wp2_with fail
              refine HMov.out.mono ?_
              rintro e wx ⟨rfl, rfl⟩
              clear hq'
              go_wp2_with fail
              refine HBal.out.mono ?_
              rintro e wb ⟨rfl, hb⟩
              have HSb := Lib.hid (HS.out.up hb)
              have HTot := Lib.hid (total_any who q HSb.out.lg HWo.out)
              clear hb
              go_wp2_with fail
              refine HTot.out.mono ?_
              rintro e wt ⟨rfl, hb⟩
              have HSt := Lib.hid (HSb.out.up hb)
              clear hb
              go_wp2_with fail
              go_loopw [81] (fun i wr => ∃ (j : Nat) (S' : Ld) (O : Nat → Prop), j ≤ l'.length ∧ i = .int .i64 (j : Int) ∧ Sn w1 wr p S' O ∧ SameTo q S S') (fun i _ => l'.length - (intOf i).toNat)
              case atStart => exact ⟨0, _, _, Nat.zero_le _, rfl, HSt.out, SameTo.refl _ _⟩
              case round =>
                obtain ⟨j, S2, O2, hj, rfl, hS2, hsame⟩ := hrel
                have HS2 := Lib.hid hS2
                have HSame := Lib.hid hsame
                clear hS2 hsame
                by_cases hlt : j < l'.length
                · obtain ⟨x, hx⟩ : ∃ x, l'[j]? = some x := ⟨l'[j], List.getElem?_eq_getElem hlt⟩
                  obtain ⟨b, o, rfl, hcell⟩ : ∃ b o, a' = some ⟨b, o, none⟩ ∧ (w.cell? ⟨b, o + j * 4, none⟩ = some (.int .i64 x.d) ∧ w.cell? ⟨b, o + j * 4 + 1, none⟩ = some (.int .i64 x.q) ∧ w.cell? ⟨b, o + j * 4 + 2, none⟩ = some (.int .i64 x.i) ∧ w.cell? ⟨b, o + j * 4 + 3, none⟩ = some x.v) := by
                    rcases H'.out.2 with h | ⟨b, o, e, h⟩
                    · rw [h] at hx; simp at hx
                    · exact ⟨b, o, e, h j x hx⟩
                  have hbw := up2 HB1.out HS2.out.bel
                  have d0 := kcell hbw hcell.1
                  have d1 := kcell hbw hcell.2.1
                  have d2 := kcell hbw hcell.2.2.1
                  have d3 := kcell hbw hcell.2.2.2
                  unfold Oq.v at d3
                  have hox := H'.out.1 x (List.mem_of_getElem? hx)
                  have hpo := (hox.up HB1.out).1.old HS2.out.old
                  obtain ⟨W1, hW1⟩ : ∃ W1, W1 = wr.alloc (.cells #[.int .i64 x.d, .int .i64 x.q, .int .i64 x.i, .slice x.a x.ps.length x.cap] 34) := ⟨_, rfl⟩
                  have hbx : Below wr.heap.size wr W1 := by rw [hW1]; exact boxed _ _
                  have hX : Has W1 wr.heap.size 34 #[.int .i64 x.d, .int .i64 x.q, .int .i64 x.i, .slice x.a x.ps.length x.cap] := by rw [hW1]; exact Has.fresh _ _ _
                  have x0 := hX.cell 0
                  have x1 := hX.cell 1
                  have x2 := hX.cell 2
                  have x3 := hX.cell 3
                  have hxl := hX.lt
                  have HXO : Hid (∀ (W : World) (O' : Nat → Prop) , Kp O2 W1 W → W.cell? ⟨wr.heap.size, 0, none⟩ = some (.int .i64 x.d)) := fun W O' hk => by
                    have hn : ¬ O2 wr.heap.size := fun hO => by have := HS2.out.lg.bd _ hO; omega
                    rw [World.cell?_of_block (w := W1) (hk.block _ hxl hn)]; exact x0
                  have HSW := Lib.hid (HS2.out.up hbx)
                  have HDo := Lib.hid (do_any9 x HSW.out.lg (hox.up (up2 hbw hbx)) hpo)
                  unfold Oq.cells Oq.v at HDo
                  have HW1 := Lib.hid hW1
                  have HOpen := Lib.hid (open_any HSW.out.lg)
                  clear hx hcell hbw hox hpo hW1 hbx hX hxl
                  go_wp2_with fail
                  rw [← HW1.out]
                  refine HOpen.out.mono ?_
                  rintro e wx ⟨rfl, rfl⟩
                  go_wp2_with fail
                  refine HDo.out.mono ?_
                  rintro e w3 ⟨rfl, hr⟩
                  have HSN := Lib.hid (HSW.out.on hr)
                  have y0 := HXO.out w3 O2 hr.2
                  have HEnt := Lib.hid (entry_any (opN S2 x) HSN.out.lg)
                  have HT2 : Hid (SameTo q S (opS S2 x)) := HSame.out.trans (opS_closed (by have := HQ.out; have := HSame.out.2.1; omega))
                  clear hr x0 x1 x2 x3 d0 d1 d2 d3 HXO
                  go_wp2_with fail
                  refine HEnt.out.mono ?_
                  rintro e w4 ⟨hr, hb⟩
                  have HS4 := Lib.hid (HSN.out.up hb)
                  have z0 := kcell hb y0
                  clear y0
                  by_cases hgood : (x.d = 0 ∨ x.d = 1) ∧ opE S2 x = 0
                  · obtain ⟨en, e1, e2, e3⟩ := opN_entry hgood.1 hgood.2
                    obtain ⟨v, rfl, hv⟩ : ∃ v, e = .returned (.tuple #[.int .i64 en.per, v, .int .i64 0]) ∧ w4.ownsRow w3.heap.size 48 3 v en.ps.length (flat en.ps) := by
                      have hlt2 := (List.getElem?_eq_some_iff.1 e2).1
                      rcases hr with ⟨h, _⟩ | ⟨y, v, _, hy, h1, h2⟩
                      · rw [e1] at h
                        unfold entB at h
                        simp at h
                        omega
                      · rw [e1, show ((S2.L.length : Int)).toNat = S2.L.length by omega, e2] at hy
                        obtain rfl := Option.some.inj hy
                        exact ⟨v, h1, h2⟩
                    have g1 : x.d < 2 := by omega
                    have g2 : 0 ≤ x.d := by omega
                    have g3 : (opE S2 x == 0) = true := by rw [hgood.2]; rfl
                    have g4 : ¬ (en.per < (S2.op : Int)) := by omega
                    clear hr hb hgood e1 e2 e3 hv
                    go_wp2_with fail
                    go_roundw
                    case rel => exact ⟨j + 1, _, _, by omega, by go_num, HS4.out, HT2.out⟩
                    case measure => simp [intOf]; omega
                  · obtain ⟨A, V, C, rfl⟩ : ∃ A V C, e = .returned (.tuple #[.int .i64 A, V, .int .i64 C]) := by
                      rcases hr with ⟨_, h⟩ | ⟨y, v, _, _, h, _⟩
                      · exact ⟨_, _, _, h⟩
                      · exact ⟨_, _, _, h⟩
                    clear hr hb
                    by_cases g1 : x.d < 2
                    · by_cases g2 : 0 ≤ x.d
                      · have g3 : (opE S2 x == 0) = false := by
                          have : ¬ opE S2 x = 0 := fun z => hgood ⟨by omega, z⟩
                          simpa using this
                        clear hgood
                        go_wp2_with fail
                        go_roundw
                        case rel => exact ⟨j + 1, _, _, by omega, by go_num, HS4.out, HT2.out⟩
                        case measure => simp [intOf]; omega
                      · clear hgood
                        go_wp2_with fail
                        go_roundw
                        case rel => exact ⟨j + 1, _, _, by omega, by go_num, HS4.out, HT2.out⟩
                        case measure => simp [intOf]; omega
                    · clear hgood
                      go_wp2_with fail
                      go_roundw
                      case rel => exact ⟨j + 1, _, _, by omega, by go_num, HS4.out, HT2.out⟩
                      case measure => simp [intOf]; omega
                · obtain rfl : j = l'.length := by omega
                  have HTot2 := Lib.hid (total_any who q HS2.out.lg HWo.out)
                  unfold TotR at HTot2
                  rw [(HSame.out.tot who).1, (HSame.out.tot who).2] at HTot2
                  clear hlt
                  go_wp2_with fail
                  refine HTot2.out.mono ?_
                  rintro e w3 ⟨rfl, hb⟩
                  have HS3 := Lib.hid (HS2.out.up hb)
                  have HMov2 := Lib.hid (moved_any who con q HS3.out.lg HWo.out HC.out)
                  rw [HSame.out.mov who con] at HMov2
                  have HBal2 := Lib.hid (balance_any who con q HS3.out.lg HWo.out HC.out)
                  rw [HSame.out.bal who con] at HBal2
                  clear hb
                  go_wp2_with fail
                  refine HMov2.out.mono ?_
                  rintro e wx ⟨rfl, rfl⟩
                  go_wp2_with fail
                  refine HBal2.out.mono ?_
                  rintro e w4 ⟨rfl, hb⟩
                  have HS4 := Lib.hid (HS3.out.up hb)
                  clear hb
                  go_wp2_with fail
                  go_ret
                  exact ⟨rfl, up2 HB1.out HS4.out.bel⟩
      · have HNew := Lib.hid (new_no (w := w1) n (by omega))
        go_wp2_with fail
        refine HNew.out.mono ?_
        rintro e w2 ⟨rfl, rfl⟩
        go_wp2_with fail
        go_ret
        exact ⟨rfl, HB1.out⟩
    · go_wp2_with fail
      go_ret
      exact ⟨rfl, HB1.out⟩
  · go_wp2_with fail
    go_ret
    exact ⟨rfl, HB1.out⟩
end Go.Proofs.Ytginbgclifdfiaa
