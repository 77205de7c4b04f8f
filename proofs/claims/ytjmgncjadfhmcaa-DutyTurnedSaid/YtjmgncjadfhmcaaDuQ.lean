/- DutyTurned. -/
import Derived.Test.YtjmgncjadfhmcaaDuP
namespace Go.Proofs.Ytjmgncjadfhmcaa
open Go.RowKit

theorem infoLine : (Try.prog.info? 45).map (fun i => (i.zero, i.size, i.bytes)) = some (some (.agg #[.int .i64 0, .int .i64 0, .int .i64 0, .int .i64 0, .int .i64 0]), 5, 40) := by kernel_rfl
/-- lines laid the other way about, k of them -/
structure BkS (w0 w : World) (l : List Ln) (k : Nat) (vb : Value) : Prop where
  own : OwL w w0.heap.size [⟨45, 5, vb, k, (l.reverse.take k).flatMap Ln.cells⟩]
  bel : Below w0.heap.size w0 w
section
variable {w0 w w' : World} {l : List Ln} {k : Nat} {vb : Value}
theorem BkS.up (h : BkS w0 w l k vb) (q : Below w.heap.size w w') : BkS w0 w' l k vb := ⟨h.own.up q, up2 h.bel q⟩
theorem BkS.start (w : World) (l : List Ln) : BkS w w l 0 (.slice none 0 0) :=
  ⟨OwL.nils fun x hx => by rw [List.mem_singleton] at hx; subst hx; exact ⟨_, _, rfl⟩, Below.refl _ _⟩
theorem BkS.more (h : BkS w0 w l k vb) {x : Ln} (hx : l.reverse[k]? = some x) (hk : k ≤ 1000) {y : Nat} (hy : Has w y 45 #[.int .i64 x.it, .int .i64 x.un, .int .i64 x.ch, .int .i64 x.fi, .int .i64 x.la]) :
    ∃ v w5, (Builtin.append_ #[23, 23] 23 #[vb, .slice (some ⟨y, 0, none⟩) 1 1]).run Try.prog w = .ok v w5 ∧ BkS w0 w5 l (k + 1) v := by
  obtain ⟨v, w5, hr, ho, hb, _, _⟩ := h.own.app (i := 0) rfl (t := 23) (ty := 23) Try.underlying23 infoLine rfl (Nat.zero_lt_succ _) (by decide) x.cells rfl (ad := ⟨y, 0, none⟩) (fun j u hu => by
    rw [addr_off, Nat.zero_add, hy.cell]
    exact (List.getElem?_toArray (xs := x.cells) (i := j)).trans hu) (fun u hu => by
      simp [Ln.cells] at hu
      rcases hu with rfl | rfl | rfl | rfl | rfl <;> rfl) (by simp only; omega) h.bel (Nat.le_refl _) h.bel.size
  refine ⟨v, w5, hr, ⟨?_, hb⟩⟩
  rw [take_snoc hx, List.flatMap_append, List.flatMap_singleton]
  exact ho
theorem BkS.done (h : BkS w0 w l l.length vb) : ∃ a c, vb = .slice a l.length c ∧ LnA w a l.reverse := by
  obtain ⟨a, c, e, _⟩ := h.own.form (i := 0) rfl
  have e : vb = .slice a l.length c := e
  subst e
  have ho := h.own
  rw [List.take_of_length_le (by rw [List.length_reverse]; exact Nat.le_refl _)] at ho
  exact ⟨a, c, rfl, (OwL.rws ln_len ho (i := 0) rfl List.length_reverse).1⟩
end
/-- how many meet -/
def meT (S : Bs) (l : List Ln) (d : Int) (n i : Nat) (L : List Nat) : Int := sumN (fun j => if meetB n (duAt S l d i) (duAt S l.reverse d j) = true then 1 else 0) L
theorem meT_bd (S : Bs) (l : List Ln) (d : Int) (n i : Nat) (L : List Nat) : 0 ≤ meT S l d n i L ∧ meT S l d n i L ≤ 1 * L.length :=
  sumN_le (fun j _ => by split <;> omega) fun j _ => by split <;> omega
theorem meT_snoc (S : Bs) (l : List Ln) (d : Int) (n i j : Nat) (L : List Nat) : meT S l d n i (L ++ [j]) = meT S l d n i L + if meetB n (duAt S l d i) (duAt S l.reverse d j) = true then 1 else 0 := sumN_snoc _ _ _
theorem one_as (a b : Du) : oneP false a { b with me := a.me } = oneB a b := by
  unfold oneP oneB
  rw [Bool.eq_iff_iff]
  simp only [Bool.and_eq_true, decide_eq_true_eq, Bool.not_false, Bool.true_or, and_true]
theorem last_at {l : List Nat} {j k : Nat} (hl : l.length = j + 1) (hk : l[j]? = some k) : l.getLast? = some k := by
  rw [List.getLast?_eq_getElem?, hl]; exact hk
set_option maxRecDepth 100000 in
set_option maxHeartbeats 2000000 in
theorem turned_law (w : World) (a0 : Option Addr) (cap0 : Nat) (I : List Im) (hI : ItA w a0 I) (ha : a0 = none → cap0 = 0) (hp : ∀ x ∈ I, Am x.pri)
    (a1 : Option Addr) (cap1 : Nat) (l : List Ln) (hL : LnA w a1 l) (hAm : ∀ x ∈ l, Am x.un) (d : Int) :
    Calls Try.prog 5 #[.slice a0 I.length cap0, .slice a1 l.length cap1, .int .i64 d] w fun e w' => e = .returned (.bool true) ∧ Below w.heap.size w w' := by
  have HAw := Lib.hid (awake_any11 w)
  have HI := Lib.hid hI
  have HL := Lib.hid hL
  have HBad := Lib.hid (fun (W : World) (q : Below w.heap.size w W) (h0 : bnewE I ≠ 0) => bnew_no a0 I.length cap0 I W rfl (hI.up q) ha hp rfl h0)
  have HNew := Lib.hid (fun (W : World) (q : Below w.heap.size w W) (h0 : bnewE I = 0) => bnew_yes a0 I.length cap0 I W rfl (hI.up q) ha hp h0)
  have HFind := Lib.hid (fun (W : World) (q : Below w.heap.size w W) (p r : Nat) (S : Bs) (h : Bk W p r S) => find_any a1 cap1 l d h (hL.up q) hAm)
  have HFinr := Lib.hid (fun (W : World) (a : Option Addr) (c p r : Nat) (S : Bs) (h : Bk W p r S) (hR : LnA W a l.reverse) => find_any a c l.reverse d h hR fun x hx => hAm x (List.mem_reverse.1 hx))
  rw [List.length_reverse] at HFinr
  obtain ⟨N, hN⟩ : ∃ N, N = I.length := ⟨_, rfl⟩
  obtain ⟨n, hn⟩ : ∃ n, n = l.length := ⟨_, rfl⟩
  have HN := Lib.hid hn
  rw [← hN] at HBad HNew
  rw [← hn] at HFind HFinr
  rw [← hN, ← hn]
  clear hI hp hL hAm hN hn ha
  by_cases g1 : 50 < N
  · have g1' : (50 : Int) < (N : Int) := by omega
    go_enter Try.func5, Try.ntmps5
    go_wp2_with fail
    refine HAw.out.mono ?_
    rintro e w1 ⟨rfl, hb⟩
    have HB := Lib.hid hb
    clear hb
    go_wp2_with fail
    go_ret
    exact ⟨rfl, HB.out⟩
  · have g1' : ¬ (50 : Int) < (N : Int) := by omega
    by_cases g2 : 30 < n
    · have g2' : (30 : Int) < (n : Int) := by omega
      go_enter Try.func5, Try.ntmps5
      go_wp2_with fail
      refine HAw.out.mono ?_
      rintro e w1 ⟨rfl, hb⟩
      have HB := Lib.hid hb
      clear hb
      go_wp2_with fail
      go_ret
      exact ⟨rfl, HB.out⟩
    · have g2' : ¬ (30 : Int) < (n : Int) := by omega
      by_cases hE : bnewE I = 0
      · have HNw := Lib.hid (fun (W : World) (q : Below w.heap.size w W) => HNew.out W q hE)
        clear HBad HNew hE
        have e0 : IntKind.i64.wrap ((n : Int) - 1) = (n : Int) - 1 := IntWalk.i64_in _ (by omega)
        go_enter Try.func5, Try.ntmps5
        go_wp2_with fail
        refine HAw.out.mono ?_
        rintro e w1 ⟨rfl, hb⟩
        have HB1 := Lib.hid hb
        clear hb
        go_wp2_with fail
        refine (HNw.out _ HB1.out).mono ?_
        rintro e w2 ⟨p, r, rfl, hs⟩
        have HS2 := Lib.hid hs
        have HB2 := Lib.hid (up2 HB1.out hs.bel)
        clear hs HNw HB1
        obtain ⟨S, hS⟩ : ∃ S, S = (⟨I, []⟩ : Bs) := ⟨_, rfl⟩
        rw [← hS] at HS2
        clear hS
        go_wp2_with fail
        go_loopw [9, 10] (fun v9 v10 wr => ∃ k : Nat, k ≤ n ∧ v10 = .int .i64 ((n : Int) - 1 - (k : Int)) ∧ BkS w2 wr l k v9) (fun _ v10 _ => (intOf v10 + 1).toNat)
        case atStart => exact ⟨0, Nat.zero_le _, by simp, BkS.start _ _⟩
        case round =>
          obtain ⟨k, hk, rfl, hT⟩ := hrel
          have HT := Lib.hid hT
          clear hT
          by_cases hlt : k < n
          · obtain ⟨t, ht⟩ : ∃ t : Nat, t = n - 1 - k := ⟨_, rfl⟩
            have hti : (n : Int) - 1 - (k : Int) = (t : Int) := by omega
            have htn : t < n := by omega
            obtain ⟨x, hx⟩ : ∃ x, l[t]? = some x := ⟨l[t]'(by rw [← HN.out]; exact htn), List.getElem?_eq_getElem _⟩
            have hxr : l.reverse[k]? = some x := by rw [List.getElem?_reverse (by rw [← HN.out]; exact hlt), ← HN.out, ← ht]; exact hx
            obtain ⟨b, o, ha, c0, c1, c2, c3, c4⟩ := ln_at (HL.out.up (up2 HB2.out HT.out.bel)) hx
            subst ha
            obtain ⟨v5, w5, hr5, hT5⟩ := (HT.out.up (boxed wr (.cells #[.int .i64 x.it, .int .i64 x.un, .int .i64 x.ch, .int .i64 x.fi, .int .i64 x.la] 45))).more hxr (by omega) (Has.fresh _ _ _)
            have H5 := Lib.hid hr5
            have HT5 := Lib.hid hT5
            have hti0 : (0 : Int) ≤ (t : Int) := by omega
            have e1 : IntKind.i64.wrap ((t : Int) - 1) = (t : Int) - 1 := IntWalk.i64_in _ (by omega)
            have ht2 := Lib.hid hti
            rw [hti]
            clear hr5 hT5 hx hxr hti ht
            go_wp2_with (first | (at_builtin; refine wpList_run (o := ⟨some 50, _, _, _, _, _⟩) rfl (.tmp 44) (.tmp 49) 23 rfl _ _ rfl rfl (S := fun u q => v5 = u ∧ w5 = q) ⟨v5, w5, H5.out, rfl, rfl⟩ ?_; rintro u5 q5 ⟨rfl, rfl⟩) | fail)
            refine ⟨⟨k + 1, by omega, ?_, HT5.out⟩, ?_⟩
            · have := ht2.out
              (congr 1 <;> omega)
            · simp [intOf]
          · obtain rfl : k = n := by omega
            have hz : (k : Int) - 1 - (k : Int) = -1 := by omega
            have hT := HT.out
            have hdone : ∃ a c, u9 = .slice a k c ∧ LnA wr a l.reverse := by
              rw [HN.out] at hT ⊢
              exact hT.done
            obtain ⟨ab, cb, rfl, hR⟩ := hdone
            have HR := Lib.hid hR
            have HBt := Lib.hid HT.out.bel
            have HBw := Lib.hid (up2 HB2.out HT.out.bel)
            have HS3 := Lib.hid (HS2.out.bk.up HT.out.bel)
            rw [hz]
            clear hT hR HT hz
            go_wp2_with fail
            refine (HFind.out _ HBw.out p r S HS3.out).mono ?_
            rintro e w3 ⟨aD, cD, X, rfl, hX, hD, hb⟩
            have HB3 := Lib.hid (up2 HBw.out hb)
            have HS4 := Lib.hid (HS3.out.up hb)
            have HR3 := Lib.hid (HR.out.up hb)
            have HD := Lib.hid hD
            have HX := Lib.hid hX
            clear hb hD hX HFind HS3 HR HBw
            go_wp2_with fail
            refine (HFinr.out _ ab cb p r S HS4.out HR3.out).mono ?_
            rintro e w4 ⟨aE, cE, Y, rfl, hY, hDy, hb⟩
            rw [findE_rev]
            have HB4 := Lib.hid (up2 HB3.out hb)
            have HD4 := Lib.hid (HD.out.up hb)
            have HDy := Lib.hid hDy
            have HY := Lib.hid hY
            clear hb hDy hY HFinr HS4 HR3 HB3 HD
            obtain ⟨m, hm⟩ : ∃ m, m = X.length := ⟨_, rfl⟩
            have hmy : Y.length = m := by
              have h1 := congrArg List.length HX.out
              have h2 := congrArg List.length HY.out
              rw [List.length_map] at h1 h2
              rw [h2, findV_rev_len, ← h1, hm]
            rw [hmy, ← hm]
            have HM := Lib.hid hm
            have HMy := Lib.hid hmy
            obtain ⟨E, hE⟩ : ∃ E, E = findE S l d := ⟨_, rfl⟩
            rw [← hE]
            have HE := Lib.hid hE
            clear hm hmy hE
            go_wp2_with fail
            go_loopw [77] (fun v77 wr => ∃ t : Nat, t ≤ m ∧ v77 = .int .i64 (t : Int) ∧ Below w4.heap.size w4 wr) (fun v77 _ => m - (intOf v77).toNat)
            case atStart => exact ⟨0, Nat.zero_le _, rfl, Below.refl _ _⟩
            case round =>
              obtain ⟨t, ht, rfl, hb⟩ := hrel
              have HB := Lib.hid hb
              clear hb
              by_cases htm : t < m
              · have hF : findE S l d = 0 := by
                  by_cases q : findE S l d = 0
                  · exact q
                  · exfalso
                    have := congrArg List.length HX.out
                    rw [findV_no q, List.length_map, ← HM.out] at this
                    simp at this; omega
                have hX := HX.out
                rw [findV_tol hF] at hX
                have hY := HY.out
                rw [findV_tol ((findE_rev S l d).trans hF)] at hY
                have HT := tol_of hF
                have hn12 : k ≤ 12 := by have := HT.few; rw [← HN.out] at this; exact this
                have hmf : m = (fsts (dKey S l.reverse) k).length := by
                  have := congrArg List.length hY
                  unfold duties at this
                  rw [List.length_map, List.length_map, HMy.out, List.length_reverse, ← HN.out] at this
                  exact this
                have HMf := Lib.hid hmf
                have hm12 : m ≤ 12 := by rw [hmf]; exact Nat.le_trans (fsts_le _ _) hn12
                have hmx : m = (fsts (dKey S l) k).length := by
                  have := congrArg List.length hX
                  unfold duties at this
                  rw [List.length_map, List.length_map, ← HM.out, ← HN.out] at this
                  exact this
                obtain ⟨⟨xa, xc, ⟨ls, al, un, me, fi, la⟩⟩, hx⟩ : ∃ x, X[t]? = some x := ⟨X[t]'(by rw [← HM.out]; exact htm), List.getElem?_eq_getElem _⟩
                obtain ⟨i, hi⟩ : ∃ i, (fsts (dKey S l) k)[t]? = some i := ⟨(fsts (dKey S l) k)[t]'(by rw [← hmx]; exact htm), List.getElem?_eq_getElem _⟩
                have him := List.mem_of_getElem? hi
                have hik := (mem_fsts.1 him).1
                have hdu : (⟨ls, al, un, me, fi, la⟩ : Du) = duAt S l d i := by
                  have h1 := congrArg (fun L => L[t]?) hX
                  simp only [duties, List.getElem?_map, hx, ← HN.out, hi, Option.map_some] at h1
                  exact Option.some.inj h1
                have hls : ls = mems (dKey S l) k i := by have := congrArg Du.ls hdu; rw [HN.out]; exact this
                obtain ⟨u, hu⟩ := mems_head him
                have h0 : ls[0]? = some i := by rw [hls, hu]; rfl
                obtain ⟨bD, oD, haD, c0, c1, c2, c3, c4, c5, hns⟩ := dus_at (HD4.out.up HB.out) hx
                simp only at c0 c1 c2 c3 c4 c5 hns
                subst haD
                obtain ⟨xb, xo, hxa, p0⟩ := ns_at hns h0
                subst hxa
                rw [Nat.add_zero] at p0
                obtain ⟨q, hq⟩ : ∃ q, q = ls.length := ⟨_, rfl⟩
                rw [← hq] at c0
                have hq0 : 0 < q := by rw [hq]; exact (List.getElem?_eq_some_iff.1 h0).1
                have hq12 : ls.length ≤ 1000 := by rw [hls]; exact Nat.le_trans (mems_le _ _ _) (by omega)
                have hqz : ((q : Int) == 0) = false := by simp; omega
                have hi0 : (0 : Int) ≤ (i : Int) := by omega
                have HXx := Lib.hid hx
                have HHd : Hid ((duAt S l d i).ls.head? = some i) := duAt_head S l d (by rw [← HN.out]; exact him)
                have HDu := Lib.hid hdu
                have HQ := Lib.hid hq
                have HY' := Lib.hid hY
                have HIm := Lib.hid him
                have HQ12 := Lib.hid hq12
                clear hx hi him hdu hls u hu h0 hns hq hmf hmx hX hY HT hq12
                go_wp2_with fail
                obtain ⟨wo, hwo⟩ : ∃ wo, wo = wr := ⟨_, rfl⟩
                rw [← hwo] at HB c0 c1 c2 c3 c4 c5 p0 ⊢
                clear hwo c0 c1 c2 c3 c4 c5 p0
                go_loopw [17, 83] (fun v17 v83 wr => ∃ s : Nat, s ≤ m ∧ v83 = .int .i64 (s : Int) ∧ v17 = .int .i64 (meT S l d k i ((fsts (dKey S l.reverse) k).take s)) ∧ Below wo.heap.size wo wr ∧ Has wr wo.heap.size 43 #[.slice (some ⟨xb, xo, none⟩) q xc, .int .i64 al, .int .i64 un, .int .i64 me, .int .i64 fi, .int .i64 la]) (fun _ v83 _ => m - (intOf v83).toNat)
                case atStart => exact ⟨0, Nat.zero_le _, rfl, by simp [meT, sumN], boxed _ _, Has.fresh _ _ _⟩
                case round =>
                  obtain ⟨s, hs, rfl, rfl, hb, hh⟩ := hrel
                  have HBi := Lib.hid hb
                  have HHi := Lib.hid hh
                  have HB4i := Lib.hid (up2 HB.out hb)
                  clear hb hh
                  by_cases hsm : s < m
                  · obtain ⟨⟨ya, yc, ⟨ls2, al2, un2, me2, fi2, la2⟩⟩, hy⟩ : ∃ y, Y[s]? = some y := ⟨Y[s]'(by rw [HMy.out]; exact hsm), List.getElem?_eq_getElem _⟩
                    obtain ⟨j, hj⟩ : ∃ j, (fsts (dKey S l.reverse) k)[s]? = some j := ⟨(fsts (dKey S l.reverse) k)[s]'(by rw [← HMf.out]; exact hsm), List.getElem?_eq_getElem _⟩
                    have hjm := List.mem_of_getElem? hj
                    have hdv : (⟨ls2, al2, un2, me2, fi2, la2⟩ : Du) = duAt S l.reverse d j := by
                      have h1 := congrArg (fun L => L[s]?) HY'.out
                      simp only [duties, List.getElem?_map, hy, List.length_reverse, ← HN.out, hj, Option.map_some] at h1
                      exact Option.some.inj h1
                    have hls2 : ls2 = mems (dKey S l.reverse) k j := by have := congrArg Du.ls hdv; rw [HN.out, ← List.length_reverse]; exact this
                    obtain ⟨u2, hu2⟩ := mems_head hjm
                    obtain ⟨jy, hjy⟩ : ∃ jy, ls2.length = jy + 1 := ⟨u2.length, by rw [hls2, hu2]; rfl⟩
                    obtain ⟨yl, hyl⟩ : ∃ yl, ls2[jy]? = some yl := ⟨ls2[jy]'(by omega), List.getElem?_eq_getElem _⟩
                    have hq2 : ls2.length ≤ 12 := by rw [hls2]; exact Nat.le_trans (mems_le _ _ _) hn12
                    obtain ⟨bE, oE, haE, c0, c1, c2, c3, c4, c5, hns2⟩ := dus_at (HDy.out.up HB4i.out) hy
                    simp only at c0 c1 c2 c3 c4 c5 hns2
                    subst haE
                    obtain ⟨W0, hW0⟩ : ∃ W0, W0 = wr.alloc (.cells #[.slice ya ls2.length yc, .int .i64 al2, .int .i64 un2, .int .i64 me2, .int .i64 fi2, .int .i64 la2] 43) := ⟨_, rfl⟩
                    have HW0 := Lib.hid hW0
                    have hbW : Below wr.heap.size wr W0 := by rw [hW0]; exact boxed _ _
                    obtain ⟨yb, yo, hya, p1⟩ := ns_at (hns2.up hbW) hyl
                    subst hya
                    have hnx := (HD4.out.up HB4i.out).2 _ (List.mem_of_getElem? HXx.out)
                    have h0 : ls[0]? = some i := by
                      have := HHd.out
                      rw [← HDu.out] at this
                      rw [← List.head?_eq_getElem?]; exact this
                    obtain ⟨xb', xo', hxe, p0⟩ := ns_at (hnx.up hbW) h0
                    obtain ⟨rfl, rfl⟩ : xb = xb' ∧ xo = xo' := by injection hxe with z; injection z with z1 z2; exact ⟨z1, z2⟩
                    rw [Nat.add_zero] at p0
                    have hX0 := HHi.out.up hbW
                    have hY0 : Has W0 wr.heap.size 43 #[.slice (some ⟨yb, yo, none⟩) ls2.length yc, .int .i64 al2, .int .i64 un2, .int .i64 me2, .int .i64 fi2, .int .i64 la2] := by rw [hW0]; exact Has.fresh _ _ _
                    obtain ⟨q2, hq2e⟩ : ∃ q2, q2 = ls2.length := ⟨_, rfl⟩
                    rw [← hq2e] at hY0 c0 HW0
                    have HQ2 := Lib.hid hq2e
                    have a0 : W0.cell? ⟨wo.heap.size, 0, none⟩ = some (.slice (some ⟨xb, xo, none⟩) q xc) := hX0.cell 0
                    have a1' : W0.cell? ⟨wo.heap.size, 1, none⟩ = some (.int .i64 al) := hX0.cell 1
                    have a2 : W0.cell? ⟨wo.heap.size, 2, none⟩ = some (.int .i64 un) := hX0.cell 2
                    have a3 : W0.cell? ⟨wo.heap.size, 3, none⟩ = some (.int .i64 me) := hX0.cell 3
                    have a4 : W0.cell? ⟨wo.heap.size, 4, none⟩ = some (.int .i64 fi) := hX0.cell 4
                    have a5 : W0.cell? ⟨wo.heap.size, 5, none⟩ = some (.int .i64 la) := hX0.cell 5
                    have b0 : W0.cell? ⟨wr.heap.size, 0, none⟩ = some (.slice (some ⟨yb, yo, none⟩) q2 yc) := hY0.cell 0
                    have b1 : W0.cell? ⟨wr.heap.size, 1, none⟩ = some (.int .i64 al2) := hY0.cell 1
                    have b2 : W0.cell? ⟨wr.heap.size, 2, none⟩ = some (.int .i64 un2) := hY0.cell 2
                    have b3 : W0.cell? ⟨wr.heap.size, 3, none⟩ = some (.int .i64 me2) := hY0.cell 3
                    have b4 : W0.cell? ⟨wr.heap.size, 4, none⟩ = some (.int .i64 fi2) := hY0.cell 4
                    have b5 : W0.cell? ⟨wr.heap.size, 5, none⟩ = some (.int .i64 la2) := hY0.cell 5
                    have bf := hY0.free 3
                    have hne : wo.heap.size ≠ wr.heap.size := by have := HHi.out.lt; omega
                    have hyz : ((q2 : Int) == 0) = false := by simp; omega
                    have e1 : IntKind.i64.wrap ((q2 : Int) - 1) = (jy : Int) := by rw [show (q2 : Int) - 1 = (jy : Int) by omega]; exact IntWalk.i64_in _ (by omega)
                    have e2 : IntKind.i64.wrap ((k : Int) - 1 - (i : Int)) = (k : Int) - 1 - (i : Int) := IntWalk.i64_in _ (by omega)
                    have e3 : IntKind.i64.wrap ((s : Int) + 1) = (s : Int) + 1 := IntWalk.i64_in _ (by omega)
                    have hbd := meT_bd S l d k i ((fsts (dKey S l.reverse) k).take s)
                    have hbl : ((fsts (dKey S l.reverse) k).take s).length ≤ 12 := by rw [List.length_take]; omega
                    have hmeet : meetB k (duAt S l d i) (duAt S l.reverse d j) = (decide ((k : Int) - 1 - (i : Int) = (yl : Int)) && oneB ⟨ls, al, un, me, fi, la⟩ ⟨ls2, al2, un2, me2, fi2, la2⟩) := by
                      unfold meetB
                      rw [HHd.out, ← hdv, ← HDu.out]
                      have := last_at (l := ls2) hjy hyl
                      show (decide (ls2.getLast? = _) && _) = _
                      rw [this, Option.map_some]
                      congr 1
                      rw [Bool.eq_iff_iff, decide_eq_true_eq, decide_eq_true_eq]
                      constructor
                      · intro z; have := Option.some.inj z; omega
                      · intro z; congr 1; omega
                    have hstep : meT S l d k i ((fsts (dKey S l.reverse) k).take (s + 1)) = meT S l d k i ((fsts (dKey S l.reverse) k).take s) + if (decide ((k : Int) - 1 - (i : Int) = (yl : Int)) && oneB ⟨ls, al, un, me, fi, la⟩ ⟨ls2, al2, un2, me2, fi2, la2⟩) = true then 1 else 0 := by
                      rw [take_snoc hj, meT_snoc, hmeet]
                    obtain ⟨M, hM⟩ : ∃ M, M = meT S l d k i ((fsts (dKey S l.reverse) k).take s) := ⟨_, rfl⟩
                    rw [← hM] at hstep hbd ⊢
                    have HSt := Lib.hid hstep
                    have e4 : IntKind.i64.wrap (M + 1) = M + 1 := IntWalk.i64_in _ (by omega)
                    have hj0 : (0 : Int) ≤ (jy : Int) := by omega
                    have hj1 : (jy : Int) < (q2 : Int) := by omega
                    have HBW := Lib.hid hbW
                    have HOne := Lib.hid (fun (W : World) (z : Below wr.heap.size wr W) => one_any ⟨some ⟨xb, xo, none⟩, xc, ⟨ls, al, un, me, fi, la⟩⟩ ⟨some ⟨yb, yo, none⟩, yc, ⟨ls2, al2, un2, me, fi2, la2⟩⟩ false W (hnx.up z) (hns2.up z) HQ12.out)
                    simp only [DuX.val, ← HQ.out, ← HQ2.out] at HOne
                    have hO : oneP false (⟨ls, al, un, me, fi, la⟩ : Du) ⟨ls2, al2, un2, me, fi2, la2⟩ = oneB ⟨ls, al, un, me, fi, la⟩ ⟨ls2, al2, un2, me2, fi2, la2⟩ := one_as ⟨ls, al, un, me, fi, la⟩ ⟨ls2, al2, un2, me2, fi2, la2⟩
                    rw [hO] at HOne
                    have HX0 := Lib.hid hX0
                    clear hy hj hjm hdv hls2 hu2 u2 hjy hyl hns2 hbW hxe hnx h0 hX0 hY0 hq2e hmeet hstep hM hO hbd hbl hq2
                    cases qm : ((k : Int) - 1 - (i : Int) != (yl : Int)) with
                    | true =>
                      have hst : meT S l d k i ((fsts (dKey S l.reverse) k).take (s + 1)) = M := by
                        have := HSt.out
                        rw [decide_eq_false (by simpa using qm)] at this
                        simpa using this
                      have HST := Lib.hid hst
                      clear hst HOne
                      go_wp2_with fail
                      rw [← HW0.out]
                      clear hW0
                      go_quiet (fail)
                      go_wp2_with fail
                      exact ⟨⟨s + 1, by omega, by go_num, by rw [HST.out], blw (up2 HBi.out HBW.out) _, HX0.out⟩, by simp [intOf]; omega⟩
                    | false =>
                      obtain ⟨O, hO⟩ : ∃ O, O = oneB ⟨ls, al, un, me, fi, la⟩ ⟨ls2, al2, un2, me2, fi2, la2⟩ := ⟨_, rfl⟩
                      rw [← hO] at HOne HSt
                      have hst : meT S l d k i ((fsts (dKey S l.reverse) k).take (s + 1)) = M + if O = true then 1 else 0 := by
                        have := HSt.out
                        rw [decide_eq_true (by simpa using qm), Bool.true_and] at this
                        exact this
                      have HST := Lib.hid hst
                      clear hst hO
                      go_wp2_with fail
                      rw [← HW0.out]
                      clear hW0
                      go_quiet (fail)
                      go_wp2_with fail
                      refine (HOne.out _ ((blw HBW.out _).setCell (Nat.le_refl _) _)).mono ?_
                      rintro e w6 ⟨rfl, hb6⟩
                      have HB6 := Lib.hid (up2 HBi.out (up2 ((blw HBW.out _).setCell (p := ⟨wr.heap.size, 3, none⟩) (Nat.le_refl _) _) hb6))
                      have HX6 := Lib.hid (((show Has (W0.drewN _) _ _ _ from HX0.out).off (p := ⟨wr.heap.size, 3, none⟩) hne _).up hb6)
                      clear hb6
                      cases O with
                      | true =>
                        rw [if_pos rfl] at HST
                        go_wp2_with fail
                        exact ⟨⟨s + 1, by omega, by go_num, by rw [HST.out], HB6.out, HX6.out⟩, by simp [intOf]; omega⟩
                      | false =>
                        rw [if_neg (by simp), Int.add_zero] at HST
                        go_wp2_with fail
                        exact ⟨⟨s + 1, by omega, by go_num, by rw [HST.out], HB6.out, HX6.out⟩, by simp [intOf]; omega⟩
                  · obtain rfl : s = m := by omega
                    have hone : meT S l d k i ((fsts (dKey S l.reverse) k).take s) = 1 := by
                      rw [List.take_of_length_le (by rw [← HMf.out]; exact Nat.le_refl _)]
                      have := meet_one S l d (i := i) (by rw [← HN.out]; exact HIm.out)
                      rw [← HN.out] at this
                      exact this
                    rw [hone]
                    have e1 : IntKind.i64.wrap ((t : Int) + 1) = (t : Int) + 1 := IntWalk.i64_in _ (by omega)
                    clear hone
                    go_wp2_with fail
                    exact ⟨⟨t + 1, by omega, by go_num, HB4i.out⟩, by simp [intOf]; omega⟩
              · obtain rfl : t = m := by omega
                go_wp2_with fail
                go_ret
                exact ⟨rfl, up2 HB4.out HB.out⟩
      · have HBd := Lib.hid (fun (W : World) (q : Below w.heap.size w W) => HBad.out W q hE)
        clear HBad HNew hE
        go_enter Try.func5, Try.ntmps5
        go_wp2_with fail
        refine HAw.out.mono ?_
        rintro e w1 ⟨rfl, hb⟩
        have HB1 := Lib.hid hb
        clear hb
        go_wp2_with fail
        refine (HBd.out _ HB1.out).mono ?_
        rintro e w2 ⟨rfl, hb⟩
        have HB2 := Lib.hid (up2 HB1.out hb)
        clear hb
        go_wp2_with fail
        go_ret
        exact ⟨rfl, HB2.out⟩
end Go.Proofs.Ytjmgncjadfhmcaa
