/- AccountEven, its core. -/
import Derived.Test.YtginbgclifdfiaaAbB
namespace Go.Proofs.Ytginbgclifdfiaa
open Go.RowKit

theorem am_tot (S : Ld) (a q : Int) : Am (totV S a q) := by
  unfold totV
  by_cases h : totE S a q = 0
  · rw [if_pos h]
    unfold totE at h
    by_cases h1 : a < 0 ∨ 3 < a ∨ q < 0 ∨ (S.n : Int) ≤ q
    · rw [if_pos h1] at h; omega
    · rw [if_neg h1] at h
      by_cases h2 : amB (totX S a q) = true
      · exact amB_iff.1 h2
      · rw [if_neg h2] at h; omega
  · rw [if_neg h]; exact am0
theorem am_balV {S : Ld} (F : Fine S) (a c q : Int) : Am (balV S a c q) := by
  unfold balV
  by_cases h : q < 0 ∨ (S.n : Int) ≤ q
  · rw [if_pos h]; exact am0
  · rw [if_neg h]; exact F.bal a c q (by omega) (by omega)
def totsL (S : Ld) (q : Int) (j : Nat) : List Int := (List.range j).map fun (a : Nat) => totV S (a : Int) q
def balsL (S : Ld) (c q : Int) (j : Nat) : List Int := (List.range j).map fun (a : Nat) => balV S (a : Int) c q
def fitsB (S : Ld) (q : Int) (j : Nat) : Bool := (List.range j).all fun (a : Nat) => totE S (a : Int) q == 0
theorem fits_step (S : Ld) (q : Int) (j : Nat) : fitsB S q (j + 1) = (fitsB S q j && (totE S (j : Int) q == 0)) := by
  unfold fitsB; rw [List.range_succ, List.all_append]; simp
theorem tots_step (S : Ld) (q : Int) (j : Nat) : totsL S q (j + 1) = totsL S q j ++ [totV S (j : Int) q] := by
  unfold totsL; rw [List.range_succ, List.map_append]; rfl
theorem bals_step (S : Ld) (c q : Int) (j : Nat) : balsL S c q (j + 1) = balsL S c q j ++ [balV S (j : Int) c q] := by
  unfold balsL; rw [List.range_succ, List.map_append]; rfl
theorem tots_am (S : Ld) (q : Int) (j : Nat) : ∀ z ∈ totsL S q j, Am z := fun z hz => by
  obtain ⟨a, _, rfl⟩ := List.mem_map.1 hz; exact am_tot S a q
theorem bals_am {S : Ld} (F : Fine S) (c q : Int) (j : Nat) : ∀ z ∈ balsL S c q j, Am z := fun z hz => by
  obtain ⟨a, _, rfl⟩ := List.mem_map.1 hz; exact am_balV F a c q
theorem bals_sum {S : Ld} (F : Fine S) (c q : Int) : sumL (balsL S c q 4) = 0 := by
  have := bals_zero F c q
  show balV S 0 c q + (balV S 1 c q + (balV S 2 c q + (balV S 3 c q + 0))) = 0
  omega
theorem totE_fit {S : Ld} {a q : Int} (h : totE S a q = 0) : totV S a q = totX S a q := by unfold totV; rw [if_pos h]
theorem tots_sum {S : Ld} (F : Fine S) (q : Int) (h : fitsB S q 4 = true) : sumL (totsL S q 4) = 0 := by
  have := totals_zero F q
  have h' : ∀ a : Nat, a < 4 → totE S (a : Int) q = 0 := fun a ha => by
    have := List.all_eq_true.1 h a (List.mem_range.2 ha)
    simpa using this
  have e0 := totE_fit (h' 0 (by omega)); have e1 := totE_fit (h' 1 (by omega)); have e2 := totE_fit (h' 2 (by omega)); have e3 := totE_fit (h' 3 (by omega))
  show totV S ((0 : Nat) : Int) q + (totV S ((1 : Nat) : Int) q + (totV S ((2 : Nat) : Int) q + (totV S ((3 : Nat) : Int) q + 0))) = 0
  rw [e0, e1, e2, e3]
  show totX S 0 q + (totX S 1 q + (totX S 2 q + (totX S 3 q + 0))) = 0
  omega

set_option maxRecDepth 100000 in
set_option maxHeartbeats 16000000 in
theorem even_law (w : World) (n : Int) (a : Option Addr) (cap : Nat) (l : List Oq) (c : Int) (h : OpsA w a l) (hm : l.length ≤ 1000000000000000) (hc : Am c) :
    Calls Try.prog 4 #[.int .i64 n, .slice a l.length cap, .int .i64 c] w fun e w' => e = .returned (.bool true) ∧ Below w.heap.size w w' := by
  have H := Lib.hid h
  have HC := Lib.hid hc
  clear h hc
  go_enter Try.func4, Try.ntmps4
  go_wp2_with fail
  refine (awake_any9 w).mono ?_
  rintro e w1 ⟨rfl, hb⟩
  have HB1 := Lib.hid hb
  clear hb
  go_wp2_with fail
  refine (large_any9 n a cap l (H.out.up HB1.out) hm).mono ?_
  rintro e w1' ⟨rfl, rfl⟩
  cases hl : largeB n l
  · by_cases hn : 1 ≤ n ∧ n ≤ 240
    · obtain ⟨k, rfl⟩ : ∃ k : Nat, n = k := ⟨n.toNat, by omega⟩
      have hlen : l.length ≤ 24 := by
        unfold largeB at hl
        simp at hl
        omega
      have HNew := Lib.hid (new_yes (w := w1) k (by omega) (by omega))
      clear hl
      go_wp2_with fail
      refine HNew.out.mono ?_
      rintro e w2 ⟨rfl, h1, h2⟩
      obtain ⟨p, hp⟩ : ∃ p, p = w1.heap.size + 1 := ⟨_, rfl⟩
      rw [← hp] at h1 ⊢
      have K2 : Hid (Sn w1 w2 p ⟨k, 0, []⟩ (Own9 w1 w2)) := ⟨h1, h2, fun b hb => hb.1⟩
      clear h1 h2 hp
      go_wp2_with fail
      go_loopw [40] (fun i wr => ∃ (j : Nat) (S : Ld) (O : Nat → Prop), j ≤ l.length ∧ i = .int .i64 (j : Int) ∧ Sn w1 wr p S O ∧ S.n = k) (fun i _ => l.length - (intOf i).toNat)
      case atStart => exact ⟨0, _, _, Nat.zero_le _, rfl, K2.out, rfl⟩
      case round =>
        obtain ⟨j, S, O, hj, rfl, hS, hSn⟩ := hrel
        have HS := Lib.hid hS
        have HSn := Lib.hid hSn
        clear hS hSn
        by_cases hlt : j < l.length
        · obtain ⟨x, hx⟩ : ∃ x, l[j]? = some x := ⟨l[j], List.getElem?_eq_getElem hlt⟩
          obtain ⟨b, o, rfl, hcell⟩ : ∃ b o, a = some ⟨b, o, none⟩ ∧ (w.cell? ⟨b, o + j * 4, none⟩ = some (.int .i64 x.d) ∧ w.cell? ⟨b, o + j * 4 + 1, none⟩ = some (.int .i64 x.q) ∧ w.cell? ⟨b, o + j * 4 + 2, none⟩ = some (.int .i64 x.i) ∧ w.cell? ⟨b, o + j * 4 + 3, none⟩ = some x.v) := by
            rcases H.out.2 with h | ⟨b, o, e, h⟩
            · rw [h] at hx; simp at hx
            · exact ⟨b, o, e, h j x hx⟩
          have hbw := up2 HB1.out HS.out.bel
          have d0 := kcell hbw hcell.1
          have d1 := kcell hbw hcell.2.1
          have d2 := kcell hbw hcell.2.2.1
          have d3 := kcell hbw hcell.2.2.2
          unfold Oq.v at d3
          have hox := H.out.1 x (List.mem_of_getElem? hx)
          have hpo := (hox.up HB1.out).1.old HS.out.old
          obtain ⟨W1, hW1⟩ : ∃ W1, W1 = wr.alloc (.cells #[.int .i64 x.d, .int .i64 x.q, .int .i64 x.i, .slice x.a x.ps.length x.cap] 34) := ⟨_, rfl⟩
          have hbx : Below wr.heap.size wr W1 := by rw [hW1]; exact boxed _ _
          have hX : Has W1 wr.heap.size 34 #[.int .i64 x.d, .int .i64 x.q, .int .i64 x.i, .slice x.a x.ps.length x.cap] := by rw [hW1]; exact Has.fresh _ _ _
          have x0 := hX.cell 0
          have x1 := hX.cell 1
          have x2 := hX.cell 2
          have x3 := hX.cell 3
          have HSW := Lib.hid (HS.out.up hbx)
          have HDo := Lib.hid (do_any9 x HSW.out.lg (hox.up (up2 hbw hbx)) hpo)
          unfold Oq.cells Oq.v at HDo
          have HW1 := Lib.hid hW1
          have HMany := Lib.hid (many_any HSW.out.lg)
          have HOpen := Lib.hid (open_any HSW.out.lg)
          clear hx hcell hbw hox hpo hW1 hbx hX
          go_wp2_with fail
          rw [← HW1.out]
          refine HMany.out.mono ?_
          rintro e wx ⟨rfl, rfl⟩
          go_wp2_with fail
          refine HOpen.out.mono ?_
          rintro e wx ⟨rfl, rfl⟩
          go_wp2_with fail
          refine HDo.out.mono ?_
          rintro e w3 ⟨rfl, hr⟩
          have HSN := Lib.hid (HSW.out.on hr)
          have HNn : Hid ((opS S x).n = k) := by rw [← HSn.out]; exact opS_n S x
          clear hr x0 x1 x2 x3 d0 d1 d2 d3
          by_cases hE : opE S x = 0
          · have he : (opE S x != 0) = false := by rw [hE]; rfl
            clear hE
            go_wp2_with fail
            go_roundw
            case rel => exact ⟨j + 1, _, _, by omega, by go_num, HSN.out, HNn.out⟩
            case measure => simp [intOf]; omega
          · have he : (opE S x != 0) = true := by simpa using hE
            have hsame := opS_same hE
            have HMany3 := Lib.hid (many_any HSN.out.lg)
            have HOpen3 := Lib.hid (open_any HSN.out.lg)
            rw [hsame] at HMany3 HOpen3
            clear hE hsame
            go_wp2_with fail
            refine HMany3.out.mono ?_
            rintro e wx ⟨rfl, rfl⟩
            go_wp2_with fail
            refine HOpen3.out.mono ?_
            rintro e wx ⟨rfl, rfl⟩
            go_wp2_with fail
            go_roundw
            case rel => exact ⟨j + 1, _, _, by omega, by go_num, HSN.out, HNn.out⟩
            case measure => simp [intOf]; omega
        · obtain rfl : j = l.length := by omega
          have hF := HS.out.lg.fine
          have HF := Lib.hid hF
          clear hF
          obtain ⟨wo, rfl⟩ : ∃ wo, wo = wr := ⟨_, rfl⟩
          go_wp2_with fail
          go_loopw [15] (fun i wr => ∃ q : Nat, q ≤ k ∧ i = .int .i64 (q : Int) ∧ Sn w1 wr p S O) (fun i _ => k - (intOf i).toNat)
          case atStart => exact ⟨0, Nat.zero_le _, rfl, HS.out⟩
          case round =>
            obtain ⟨q, hq, rfl, hS2⟩ := hrel
            have HS2 := Lib.hid hS2
            clear hS2
            by_cases hqk : q < k
            · obtain ⟨wa, rfl⟩ : ∃ wa, wa = wr := ⟨_, rfl⟩
              go_wp2_with fail
              go_loopw [16, 17, 18, 19] (fun v16 v17 v18 i wr => ∃ j : Nat, j ≤ 4 ∧ i = .int .i64 (j : Int) ∧ v18 = .bool (fitsB S q j) ∧ Two9 wa.heap.size wr v16 (totsL S q j) v17 (balsL S c q j) ∧ Below wa.heap.size wa wr) (fun _ _ _ i _ => 4 - (intOf i).toNat)
              case atStart => exact ⟨0, by omega, rfl, rfl, Two9.empty _ _, Below.refl _ _⟩
              case round =>
                obtain ⟨j, hj, rfl, rfl, h2, hb⟩ := hrel
                have HT := Lib.hid h2
                have HB := Lib.hid hb
                clear h2 hb
                by_cases hj4 : j < 4
                · have HLg := Lib.hid (HS2.out.up HB.out)
                  have HTot := Lib.hid (total_any (j : Int) (q : Int) HLg.out.lg (by unfold Am; omega))
                  have e1 : IntKind.i64.wrap ((j : Int) + 1) = (j : Int) + 1 := IntWalk.i64_in _ (by omega)
                  have HEnd : Hid (∀ wt, Below wr.heap.size wr wt → ∃ v1' w5, (Builtin.append_ #[55, 55] 55 #[u16, .slice (some ⟨wt.heap.size, 0, none⟩) 1 1]).run Try.prog (wt.alloc (.cells #[.int .i64 (totV S (j : Int) (q : Int))] 2)) = .ok v1' w5 ∧
                      Two9 wa.heap.size w5 v1' (totsL S q (j + 1)) u17 (balsL S c q j) ∧ Below wa.heap.size wa w5) := fun wt hbt => by
                    have hb2 : Below wr.heap.size wr (wt.alloc (.cells #[.int .i64 (totV S (j : Int) (q : Int))] 2)) := hbt.alloc hbt.size _
                    have hT2 := HT.out.up hb2
                    have hsz := HB.out.size
                    obtain ⟨v1', w5, happ, hA⟩ := app_one 55 hT2.one (by have := hb2.size; omega) (by unfold totsL; simp; omega) ((Has.fresh wt 2 #[.int .i64 (totV S (j : Int) (q : Int))]).cell 0)
                    refine ⟨v1', w5, happ, ?_, ?_⟩
                    · rw [tots_step]; exact hT2.app1 hA
                    · exact (up2 HB.out hb2).grown hA.2.1 (by have := hb2.size; omega) (fun g hg => (hT2.one.lt hg).1)
                  have HEnd2 : Hid (∀ w5 v1' wt, Two9 wa.heap.size w5 v1' (totsL S q (j + 1)) u17 (balsL S c q j) → Below wa.heap.size wa w5 → Below w5.heap.size w5 wt → ∃ v2' w8, (Builtin.append_ #[55, 55] 55 #[u17, .slice (some ⟨wt.heap.size, 0, none⟩) 1 1]).run Try.prog (wt.alloc (.cells #[.int .i64 (balV S (j : Int) c (q : Int))] 2)) = .ok v2' w8 ∧
                      Two9 wa.heap.size w8 v1' (totsL S q (j + 1)) v2' (balsL S c q (j + 1)) ∧ Below wa.heap.size wa w8) := fun w5 v1' wt hT hB hbt => by
                    have hb2 : Below w5.heap.size w5 (wt.alloc (.cells #[.int .i64 (balV S (j : Int) c (q : Int))] 2)) := hbt.alloc hbt.size _
                    have hT2 := hT.up hb2
                    have hsz := hB.size
                    obtain ⟨v2', w8, happ, hA⟩ := app_one 55 hT2.two (by have := hb2.size; omega) (by unfold balsL; simp; omega) ((Has.fresh wt 2 #[.int .i64 (balV S (j : Int) c (q : Int))]).cell 0)
                    refine ⟨v2', w8, happ, ?_, ?_⟩
                    · rw [bals_step]; exact hT2.app2 hA
                    · exact (up2 hB hb2).grown hA.2.1 (by have := hb2.size; omega) (fun g hg => (hT2.two.lt hg).1)
                  cases qf : fitsB S q j <;> cases qe : (totE S (j : Int) (q : Int) == 0)
                  all_goals
                    go_wp2_with fail
                    refine HTot.out.mono ?_
                    rintro e wt ⟨rfl, hbt⟩
                    obtain ⟨v1', w5, happ, hT5, hB5⟩ := HEnd.out wt hbt
                    have HA := Lib.hid happ
                    have HT5 := Lib.hid hT5
                    have HB5 := Lib.hid hB5
                    have HBal := Lib.hid (balance_any (j : Int) c (q : Int) (HS2.out.up hB5).lg (by unfold Am; omega) HC.out)
                    clear hbt happ hT5 hB5
                    go_wp2_with (first | (at_builtin; refine wpList_run rfl (.tmp 90) (.tmp 92) 55 rfl _ _ rfl rfl (S := fun u q => v1' = u ∧ w5 = q) ⟨v1', w5, HA.out, rfl, rfl⟩ ?_; rintro u5 q5 ⟨rfl, rfl⟩) | fail)
                    refine HBal.out.mono ?_
                    rintro e w6 ⟨rfl, hb6⟩
                    obtain ⟨v2', w8, happ, hT8, hB8⟩ := HEnd2.out w5 v1' w6 HT5.out HB5.out hb6
                    have HA8 := Lib.hid happ
                    have HT8 := Lib.hid hT8
                    have HB8 := Lib.hid hB8
                    clear hb6 happ hT8 hB8
                    go_wp2_with (first | (at_builtin; refine wpList_run rfl (.tmp 94) (.tmp 100) 55 rfl _ _ rfl rfl (S := fun u q => v2' = u ∧ w8 = q) ⟨v2', w8, HA8.out, rfl, rfl⟩ ?_; rintro u8 q8 ⟨rfl, rfl⟩) | fail)
                    go_roundw
                    case rel => exact ⟨j + 1, by omega, by go_num, by rw [fits_step, qf, qe]; rfl, HT8.out, HB8.out⟩
                    case measure => simp [intOf]; omega
                · obtain rfl : j = 4 := by omega
                  have HSn2 := Lib.hid (HS2.out.up HB.out)
                  have HSum1 := Lib.hid (sum_am1 HT.out.one (tots_am S q 4) (by unfold totsL; simp))
                  have HSum2 : Hid (∀ W, Below wr.heap.size wr W → Calls Try.prog 25 #[u17] W fun e w' => e = .returned (.tuple #[.int .i64 0, .int .i64 0]) ∧ Below W.heap.size W w') := fun W hb => by
                    have := sum_am1 (HT.out.two.up hb) (bals_am HF.out c q 4) (by unfold balsL; simp)
                    rw [bals_sum HF.out c q, (tell_am am0).1, (tell_am am0).2] at this
                    exact this
                  cases qf : fitsB S q 4
                  · clear hlt hj4
                    go_wp2_with fail
                    refine HSum1.out.mono ?_
                    rintro e wt ⟨rfl, hbt⟩
                    have HBt := Lib.hid hbt
                    clear hbt
                    go_wp2_with fail
                    refine (HSum2.out wt HBt.out).mono ?_
                    rintro e wu ⟨rfl, hbu⟩
                    have HBu := Lib.hid (up2 HBt.out hbu)
                    clear hbu
                    go_wp2_with fail
                    go_roundw
                    case rel => exact ⟨q + 1, by omega, by go_num, HSn2.out.up HBu.out⟩
                    case measure => simp [intOf]; omega
                  · rw [tots_sum HF.out q qf, (tell_am am0).1, (tell_am am0).2] at HSum1
                    clear hlt hj4
                    go_wp2_with fail
                    refine HSum1.out.mono ?_
                    rintro e wt ⟨rfl, hbt⟩
                    have HBt := Lib.hid hbt
                    clear hbt
                    go_wp2_with fail
                    refine (HSum2.out wt HBt.out).mono ?_
                    rintro e wu ⟨rfl, hbu⟩
                    have HBu := Lib.hid (up2 HBt.out hbu)
                    clear hbu
                    go_wp2_with fail
                    go_roundw
                    case rel => exact ⟨q + 1, by omega, by go_num, HSn2.out.up HBu.out⟩
                    case measure => simp [intOf]; omega
            · go_wp2_with fail
              go_ret
              exact ⟨rfl, up2 HB1.out HS2.out.bel⟩
    · have HNew := Lib.hid (new_no (w := w1) n (by omega))
      go_wp2_with fail
      refine HNew.out.mono ?_
      rintro e w2 ⟨rfl, rfl⟩
      go_wp2_with fail
      go_ret
      exact ⟨rfl, HB1.out⟩
  · go_wp2_with fail
    go_ret
    exact ⟨rfl, HB1.out⟩
end Go.Proofs.Ytginbgclifdfiaa
