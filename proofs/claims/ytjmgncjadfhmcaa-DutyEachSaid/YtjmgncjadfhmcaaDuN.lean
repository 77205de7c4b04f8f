/- DutyEach. -/
import Derived.Test.YtjmgncjadfhmcaaDuP
namespace Go.Proofs.Ytjmgncjadfhmcaa
open Go.RowKit

set_option maxRecDepth 100000 in
set_option maxHeartbeats 2000000 in
theorem each_law (w : World) (a0 : Option Addr) (cap0 : Nat) (I : List Im) (hI : ItA w a0 I) (ha : a0 = none → cap0 = 0) (hp : ∀ x ∈ I, Am x.pri)
    (a1 : Option Addr) (cap1 : Nat) (l : List Ln) (hL : LnA w a1 l) (hAm : ∀ x ∈ l, Am x.un) (d : Int) :
    Calls Try.prog 4 #[.slice a0 I.length cap0, .slice a1 l.length cap1, .int .i64 d] w fun e w' => e = .returned (.bool true) ∧ Below w.heap.size w w' := by
  have HAw := Lib.hid (awake_any11 w)
  have HI := Lib.hid hI
  have HL := Lib.hid hL
  have HAm := Lib.hid hAm
  have HBad := Lib.hid (fun (W : World) (q : Below w.heap.size w W) (h0 : bnewE I ≠ 0) => bnew_no a0 I.length cap0 I W rfl (hI.up q) ha hp rfl h0)
  have HNew := Lib.hid (fun (W : World) (q : Below w.heap.size w W) (h0 : bnewE I = 0) => bnew_yes a0 I.length cap0 I W rfl (hI.up q) ha hp h0)
  have HFind := Lib.hid (fun (W : World) (q : Below w.heap.size w W) (p r : Nat) (S : Bs) (h : Bk W p r S) => find_any a1 cap1 l d h (hL.up q) hAm)
  obtain ⟨N, hN⟩ : ∃ N, N = I.length := ⟨_, rfl⟩
  obtain ⟨n, hn⟩ : ∃ n, n = l.length := ⟨_, rfl⟩
  have HN := Lib.hid hn
  rw [← hN] at HBad HNew
  rw [← hn] at HFind
  rw [← hN, ← hn]
  clear hI hp hL hAm hN hn ha
  by_cases g1 : 50 < N
  · have g1' : (50 : Int) < (N : Int) := by omega
    go_enter Try.func4, Try.ntmps4
    go_wp2_with fail
    refine HAw.out.mono ?_
    rintro e w1 ⟨rfl, hb⟩
    have HB := Lib.hid hb
    clear hb
    go_wp2_with fail
    go_ret
    exact ⟨rfl, HB.out⟩
  · have g1' : ¬ (50 : Int) < (N : Int) := by omega
    by_cases g2 : 30 < n
    · have g2' : (30 : Int) < (n : Int) := by omega
      go_enter Try.func4, Try.ntmps4
      go_wp2_with fail
      refine HAw.out.mono ?_
      rintro e w1 ⟨rfl, hb⟩
      have HB := Lib.hid hb
      clear hb
      go_wp2_with fail
      go_ret
      exact ⟨rfl, HB.out⟩
    · have g2' : ¬ (30 : Int) < (n : Int) := by omega
      by_cases hE : bnewE I = 0
      · have HNw := Lib.hid (fun (W : World) (q : Below w.heap.size w W) => HNew.out W q hE)
        clear HBad HNew hE
        go_enter Try.func4, Try.ntmps4
        go_wp2_with fail
        refine HAw.out.mono ?_
        rintro e w1 ⟨rfl, hb⟩
        have HB1 := Lib.hid hb
        clear hb
        go_wp2_with fail
        refine (HNw.out _ HB1.out).mono ?_
        rintro e w2 ⟨p, r, rfl, hs⟩
        have HS2 := Lib.hid hs
        have HB2 := Lib.hid (up2 HB1.out hs.bel)
        clear hs HNw HB1
        obtain ⟨S, hS⟩ : ∃ S, S = (⟨I, []⟩ : Bs) := ⟨_, rfl⟩
        rw [← hS] at HS2
        clear hS
        go_wp2_with fail
        refine (HFind.out _ HB2.out p r S HS2.out.bk).mono ?_
        rintro e w3 ⟨aD, cD, X, rfl, hX, hD, hb⟩
        have HB3 := Lib.hid (up2 HB2.out hb)
        have HS3 := Lib.hid (HS2.out.bk.up hb)
        have HD := Lib.hid hD
        have HX := Lib.hid hX
        clear hb hD hX HFind HS2 HB2
        obtain ⟨m, hm⟩ : ∃ m, m = X.length := ⟨_, rfl⟩
        have HM := Lib.hid hm
        rw [← hm]
        clear hm
        by_cases hF : findE S l d = 0
        · have HT := Lib.hid (tol_of hF)
          have hV := findV_tol hF
          rw [hV] at HX
          rw [hF]
          clear hV hF
          have hn12 : n ≤ 12 := by have := HT.out.few; rw [← HN.out] at this; exact this
          have hn0 : 0 < n := by have := HT.out.pos; rw [← HN.out] at this; exact this
          have hmf : m = (fsts (dKey S l) n).length := by
            have := congrArg List.length HX.out
            unfold duties at this
            rw [List.length_map, List.length_map, ← HM.out, ← HN.out] at this
            exact this
          have HMf := Lib.hid hmf
          have hm12 : m ≤ 12 := by rw [hmf]; exact Nat.le_trans (fsts_le _ _) hn12
          clear hmf
          obtain ⟨i0, hi, hz0, hz1, hz2⟩ := info_parts infoIntd
          go_wp2_with (at_make; refine wpList_make_full _ rfl _ _ 40 rfl w3.heap.size 3 i0 (.int .i64 0) 1 Try.underlying40 hi hz0 hz1 .i64 .i64 _ _ n rfl rfl ?c1 ?c2 ?c3 ?c4 ?c5 ?_)
          case c1 => rfl
          case c2 => rfl
          case c3 => rw [hz2]; omega
          case c4 => unfold maxLen; omega
          case c5 => exact Nat.le_refl _
          intro w4 hown hgrow
          have hb4 : Below w3.heap.size w3 w4 := (Below.refl _ _).grown hgrow (Nat.le_refl _) (fun k hk => by simp at hk)
          obtain ⟨g, hg⟩ : ∃ g, g = w3.heap.size := ⟨_, rfl⟩
          rw [← hg]
          have hE0 : EaS w3 w4 g n (cntT (dKey S l) n 0) (.slice none 0 0) [] (.slice none 0 0) [] := by
            have e : seenC n (cntT (dKey S l) n 0) = (madeCells #[Value.int .i64 0] n).toList := by
              rw [toList_madeCells_one]
              unfold seenC
              apply List.ext_getElem?
              intro j
              rw [List.getElem?_map, List.getElem?_replicate]
              by_cases q : j < n
              · rw [List.getElem?_range q, if_pos q]; rfl
              · rw [List.getElem?_eq_none (by simpa using q), if_neg q]; rfl
            refine ⟨⟨fun i x hx => ?_, fun i j x y hij hx hy => ?_⟩, hb4⟩
            · match i, hx with
              | 0, hx =>
                obtain rfl := Option.some.inj hx
                show w4.ownsRow w3.heap.size 3 1 (.slice (some ⟨g, 0, none⟩) n n) n (seenC n _)
                rw [e, hg]; exact hown
              | 1, hx => obtain rfl := Option.some.inj hx; exact World.ownsRow_nil _ _ _ _
              | 2, hx => obtain rfl := Option.some.inj hx; exact World.ownsRow_nil _ _ _ _
            · match i, j, hx, hy with
              | 0, 0, _, _ => exact absurd rfl hij
              | 0, 1, hx, hy => obtain rfl := Option.some.inj hx; obtain rfl := Option.some.inj hy; exact .inr (by simp [Value.ownBlock])
              | 0, 2, hx, hy => obtain rfl := Option.some.inj hx; obtain rfl := Option.some.inj hy; exact .inr (by simp [Value.ownBlock])
              | 1, _, hx, _ => obtain rfl := Option.some.inj hx; exact .inl rfl
              | 2, _, hx, _ => obtain rfl := Option.some.inj hx; exact .inl rfl
          have HE0 := Lib.hid hE0
          clear hown hgrow hb4 hi hz0 hz1 hz2 i0 hE0 hg
          go_wp2_with fail
          go_loopw [12, 13, 15, 67] (fun v12 v13 v15 v67 wr => ∃ t : Nat, t ≤ m ∧ v67 = .int .i64 (t : Int) ∧ (∃ la : Int, v12 = .int .i64 la ∧ ∀ i, (fsts (dKey S l) n)[t]? = some i → la < (i : Int)) ∧ EaS w3 wr g n (cntT (dKey S l) n t) v13 ((X.take t).map fun x => x.d.al) v15 ((X.take t).map fun x => x.d.un)) (fun _ _ _ v67 _ => m - (intOf v67).toNat)
          case atStart => exact ⟨0, Nat.zero_le _, rfl, ⟨-1, rfl, fun i _ => by omega⟩, HE0.out⟩
          case round =>
            obtain ⟨t, ht, rfl, ⟨lst, rfl, hla⟩, hE⟩ := hrel
            have HE := Lib.hid hE
            have HLa := Lib.hid hla
            clear hE hla
            by_cases htm : t < m
            · obtain ⟨⟨xa, xc, ⟨ls, al, un, me, fi, la⟩⟩, hx⟩ : ∃ x, X[t]? = some x := ⟨X[t]'(by rw [← HM.out]; exact htm), List.getElem?_eq_getElem _⟩
              obtain ⟨i, hi⟩ : ∃ i, (fsts (dKey S l) n)[t]? = some i := ⟨(fsts (dKey S l) n)[t]'(by rw [← HMf.out]; exact htm), List.getElem?_eq_getElem _⟩
              have him := List.mem_of_getElem? hi
              have hdu : (⟨ls, al, un, me, fi, la⟩ : Du) = duAt S l d i := by
                have h1 := congrArg (fun L => L[t]?) HX.out
                simp only [duties, List.getElem?_map, hx, ← HN.out, hi, Option.map_some] at h1
                exact Option.some.inj h1
              have hls : ls = mems (dKey S l) n i := by have := congrArg Du.ls hdu; rw [HN.out]; exact this
              obtain ⟨u, hu⟩ := mems_head him
              have h0 : ls[0]? = some i := by rw [hls, hu]; rfl
              obtain ⟨bD, oD, haD, c0, c1, c2, c3, c4, c5, hns⟩ := dus_at (HD.out.up HE.out.bel) hx
              simp only at c0 c1 c2 c3 c4 c5 hns
              subst haD
              obtain ⟨xb, xo, hxa, p0⟩ := ns_at (hns.up (boxed wr (.cells #[.slice xa ls.length xc, .int .i64 al, .int .i64 un, .int .i64 me, .int .i64 fi, .int .i64 la] 43))) h0
              subst hxa
              rw [Nat.add_zero] at p0
              obtain ⟨q, hq⟩ : ∃ q, q = ls.length := ⟨_, rfl⟩
              rw [← hq] at c0 p0
              have hq0 : 0 < q := by rw [hq]; exact (List.getElem?_eq_some_iff.1 h0).1
              have hq12 : q ≤ 12 := by rw [hq, hls]; exact Nat.le_trans (mems_le _ _ _) hn12
              have hqz : ((q : Int) == 0) = false := by simp; omega
              have hlt := HLa.out i hi
              have hle : decide ((i : Int) ≤ lst) = false := by simp; omega
              have hi0 : (0 : Int) ≤ (i : Int) := by omega
              have HXx := Lib.hid hx
              have HI' := Lib.hid hi
              have HDu := Lib.hid hdu
              have HLs := Lib.hid hls
              have HQ := Lib.hid hq
              have HNs := Lib.hid hns
              clear hx hi him hdu hls u hu h0 hns hq hlt
              go_wp2_with fail
              obtain ⟨wo, hwo⟩ : ∃ wo, wo = wr := ⟨_, rfl⟩
              rw [← hwo] at HE HNs ⊢
              clear hwo c0 c1 c2 c3 c4 c5 p0
              go_loopw [90] (fun v90 wi => ∃ j : Nat, j ≤ q ∧ v90 = .int .i64 (j : Int) ∧ EaS w3 wi g n (fun a => cntT (dKey S l) n t a + sumN (one1 a) (ls.take j)) u13 ((X.take t).map fun x => x.d.al) u15 ((X.take t).map fun x => x.d.un) ∧ Has wi wo.heap.size 43 #[.slice (some ⟨xb, xo, none⟩) q xc, .int .i64 al, .int .i64 un, .int .i64 me, .int .i64 fi, .int .i64 la]) (fun v90 _ => q - (intOf v90).toNat)
              case atStart =>
                refine ⟨0, Nat.zero_le _, rfl, ?_, Has.fresh _ _ _⟩
                have := HE.out.up (boxed wo (.cells #[.slice (some ⟨xb, xo, none⟩) q xc, .int .i64 al, .int .i64 un, .int .i64 me, .int .i64 fi, .int .i64 la] 43))
                have e : (fun a => cntT (dKey S l) n t a + sumN (one1 a) (ls.take 0)) = cntT (dKey S l) n t := by funext a; simp [sumN]
                rw [e]; exact this
              case round =>
                obtain ⟨j, hj, rfl, hE, hh⟩ := hrel
                have HEi := Lib.hid hE
                have HHi := Lib.hid hh
                clear hE hh
                by_cases hjq : j < q
                · obtain ⟨k, hk⟩ : ∃ k, ls[j]? = some k := ⟨ls[j]'(by rw [← HQ.out]; exact hjq), List.getElem?_eq_getElem _⟩
                  have hkm : k ∈ mems (dKey S l) n i := by rw [← HLs.out]; exact List.mem_of_getElem? hk
                  have hkn : k < n := (mem_mems.1 hkm).1
                  obtain ⟨z, hz⟩ : ∃ z, l[k]? = some z := ⟨l[k]'(by rw [← HN.out]; exact hkn), List.getElem?_eq_getElem _⟩
                  have hdd := du_days S l d (i := i) (k := k) (by rw [← HN.out]; exact List.mem_of_getElem? HI'.out) (by rw [← HDu.out]; show k ∈ ls; exact List.mem_of_getElem? hk)
                  rw [← HDu.out, lnAt_some hz] at hdd
                  have e3 : decide (z.fi < fi) = false := by have := hdd.2.1; simp only at this; simp; omega
                  have e4 : decide (la < z.la) = false := by have := hdd.2.2; simp only at this; simp; omega
                  have e1 : decide ((k : Int) < 0) = false := by simp
                  have e2 : decide ((n : Int) ≤ (k : Int)) = false := by simp; omega
                  have hBi := up2 HB3.out HEi.out.bel
                  obtain ⟨b2, o2, hxa2, p0⟩ := ns_at ((HD.out.up HEi.out.bel).2 _ (List.mem_of_getElem? HXx.out)) hk
                  obtain ⟨rfl, rfl⟩ : xb = b2 ∧ xo = o2 := by injection hxa2 with q; injection q with q1 q2; exact ⟨q1, q2⟩
                  obtain ⟨b, o, ha, c0, c1, c2, c3, c4⟩ := ln_at (HL.out.up hBi) hz
                  subst ha
                  obtain ⟨s0, s1⟩ := HEi.out.cell hkn
                  have hbd := cnt_bd (K := dKey S l) hn12 t k (l := ls.take j) (by rw [List.length_take]; omega)
                  obtain ⟨C, hC⟩ : ∃ C : Nat → Int, C = fun a => cntT (dKey S l) n t a + sumN (one1 a) (ls.take j) := ⟨_, rfl⟩
                  have hEi := HEi.out
                  rw [← hC] at hEi
                  have hCk : C k = cntT (dKey S l) n t k + sumN (one1 k) (ls.take j) := by rw [hC]
                  rw [← hCk] at s0 hbd
                  have w1 : IntKind.i64.wrap (C k + 1) = C k + 1 := IntWalk.i64_in _ (by omega)
                  have w2 : IntKind.i64.wrap ((j : Int) + 1) = (j : Int) + 1 := IntWalk.i64_in _ (by omega)
                  have b0 : wr.cell? ⟨wo.heap.size, 4, none⟩ = some (.int .i64 fi) := HHi.out.cell 4
                  have b1 : wr.cell? ⟨wo.heap.size, 5, none⟩ = some (.int .i64 la) := HHi.out.cell 5
                  have hk0 : (0 : Int) ≤ (k : Int) := by omega
                  have HC := Lib.hid hC
                  have HEc := Lib.hid hEi
                  have HK := Lib.hid hk
                  have hgw : g ≠ wo.heap.size := by have := HE.out.lt; omega
                  clear hk hkm hz hdd hBi hxa2 hC hEi hCk hbd
                  go_wp2_with fail
                  go_quiet (fail)
                  go_wp2_with fail
                  refine ⟨⟨j + 1, by omega, by go_num, ?_, ?_⟩, by simp [intOf]; omega⟩
                  · refine (HEc.out.up (blw (Below.refl _ _) _)).count (fun a => ?_)
                    rw [HC.out]
                    simp only
                    rw [take_snoc HK.out, sumN_snoc]
                    unfold one1
                    by_cases z : a = k
                    · rw [if_pos z, if_pos z.symm]; omega
                    · rw [if_neg z, if_neg (fun y => z y.symm)]; omega
                  · exact (show Has (wr.drewN _) _ _ _ from HHi.out).off (p := ⟨g, k, none⟩) (Ne.symm hgw) _
                · obtain rfl : j = q := by omega
                  have hEf : EaS w3 wr g n (cntT (dKey S l) n (t + 1)) u13 ((X.take t).map fun x => x.d.al) u15 ((X.take t).map fun x => x.d.un) := by
                    have e : cntT (dKey S l) n (t + 1) = fun a => cntT (dKey S l) n t a + sumN (one1 a) (ls.take j) := by
                      funext a
                      rw [cnt_snoc HI'.out, HQ.out, List.take_length, HLs.out]
                    rw [e]; exact HEi.out
                  have HEf := Lib.hid hEf
                  have b1 : wr.cell? ⟨wo.heap.size, 1, none⟩ = some (.int .i64 al) := HHi.out.cell 1
                  have b2 : wr.cell? ⟨wo.heap.size, 2, none⟩ = some (.int .i64 un) := HHi.out.cell 2
                  have hz1 : ((X.take t).map fun x => x.d.al).length ≤ 1000 := by rw [List.length_map, List.length_take]; omega
                  have hz2 : ((X.take t).map fun x => x.d.un).length ≤ 1000 := by rw [List.length_map, List.length_take]; omega
                  clear hEf
                  go_wp2_with fail
                  go_region_held3 (fun w' => w'.cell? ⟨wo.heap.size, 1, none⟩ = some (.int .i64 al) ∧ w'.cell? ⟨wo.heap.size, 2, none⟩ = some (.int .i64 un))
                    (first | (go_keep; done) | (change BxC wo.heap.size 1 2 al un _; (first | with_reducible exact kB5.out | with_reducible exact kB6.out)))
                    (first | ((with_reducible refine at_w ((wr.alloc (.cells #[.int .i64 al] 2)).drew) ?_); refine step_run (by rfl) (.tmp 129) (.tmp 132) 41 (by rfl) _ _ (by rfl) (by rfl) (HEf.out.run1 HHi.out (by decide) ((boxed _ _).drew) hz1 al ((Has.fresh wr 2 #[.int .i64 al]).cell 0)) ?_; intro v5 w5 h5; have k5 := Lib.hid h5; have kB5 : Hid (BxC wo.heap.size 1 2 al un w5) := ⟨h5.box.cell 1, h5.box.cell 2⟩; clear h5) | ((with_reducible refine at_w (((wr.alloc (.cells #[.int .i64 al] 2)).alloc (.cells #[.int .i64 un] 2)).drew) ?_); refine step_run (by rfl) (.tmp 129) (.tmp 132) 41 (by rfl) _ _ (by rfl) (by rfl) (HEf.out.run1 HHi.out (by decide) ((up2 (boxed _ _) (boxed _ _)).drew) hz1 al (by simp [go_sem])) ?_; intro v5 w5 h5; have k5 := Lib.hid h5; have kB5 : Hid (BxC wo.heap.size 1 2 al un w5) := ⟨h5.box.cell 1, h5.box.cell 2⟩; clear h5) | ((with_reducible refine at_w (((wr.alloc (.cells #[.int .i64 un] 2)).alloc (.cells #[.int .i64 al] 2)).drew) ?_); refine step_run (by rfl) (.tmp 129) (.tmp 132) 41 (by rfl) _ _ (by rfl) (by rfl) (HEf.out.run1 HHi.out (by decide) ((up2 (boxed _ _) (boxed _ _)).drew) hz1 al (by simp [go_sem])) ?_; intro v5 w5 h5; have k5 := Lib.hid h5; have kB5 : Hid (BxC wo.heap.size 1 2 al un w5) := ⟨h5.box.cell 1, h5.box.cell 2⟩; clear h5) | ((with_reducible refine at_w (w5.alloc (.cells #[.int .i64 un] 2)) ?_); refine step_run (by rfl) (.tmp 134) (.tmp 137) 41 (by rfl) _ _ (by rfl) (by rfl) (k5.out.ea.run2 k5.out.box (by decide) (boxed _ _) hz2 un ((Has.fresh w5 2 #[.int .i64 un]).cell 0)) ?_; intro v6 w6 h6; have k6 := Lib.hid h6; have kB6 : Hid (BxC wo.heap.size 1 2 al un w6) := ⟨h6.box.cell 1, h6.box.cell 2⟩; clear h6) | ((with_reducible refine at_w (w5) ?_); refine step_run (by rfl) (.tmp 134) (.tmp 137) 41 (by rfl) _ _ (by rfl) (by rfl) (k5.out.ea.run2 k5.out.box (by decide) (Below.refl _ _) hz2 un (k5.out.keep _ _ _ (by simp) (by simp [go_sem]))) ?_; intro v6 w6 h6; have k6 := Lib.hid h6; have kB6 : Hid (BxC wo.heap.size 1 2 al un w6) := ⟨h6.box.cell 1, h6.box.cell 2⟩; clear h6))
                  all_goals
                    clear b1 b2 k5 kB5 kB6
                    go_wp2_with fail
                    refine ⟨⟨t + 1, by omega, by go_num, ⟨_, rfl, fun i2 h2 => ?_⟩, ?_⟩, by simp [intOf]; omega⟩
                    · obtain ⟨q1, q1'⟩ := List.getElem?_eq_some_iff.1 HI'.out
                      obtain ⟨q2, q2'⟩ := List.getElem?_eq_some_iff.1 h2
                      have hn := (List.pairwise_iff_getElem.1 (fsts_asc (K := dKey S l) (n := n))) t (t + 1) q1 q2 (by omega)
                      omega
                    · have := k6.out.ea
                      rw [take_snoc HXx.out, List.map_append, List.map_append]
                      exact this
            · obtain rfl : t = m := by omega
              obtain ⟨w5, hw5⟩ : ∃ w5, w5 = wr := ⟨_, rfl⟩
              rw [← hw5] at HE ⊢
              have hE5 := HE.out
              rw [HM.out, List.take_length] at hE5
              have hXa : (X.map fun x => x.d.al) = (fsts (dKey S l) n).map fun i => (duAt S l d i).al := by
                have := congrArg (List.map Du.al) HX.out
                unfold duties at this
                rw [List.map_map, List.map_map, ← HN.out] at this; exact this
              have hXu : (X.map fun x => x.d.un) = (fsts (dKey S l) n).map fun i => (duAt S l d i).un := by
                have := congrArg (List.map Du.un) HX.out
                unfold duties at this
                rw [List.map_map, List.map_map, ← HN.out] at this; exact this
              have hm0 : 0 < t := by
                rw [HMf.out]
                obtain ⟨i, hi, _⟩ := fst_ex (K := dKey S l) hn0
                exact List.length_pos_of_mem hi
              have HA : Hid (ZsA w5 u13 (X.map fun x => x.d.al)) := zs_of hE5.own (i := 1) rfl (by rw [List.length_map, ← HM.out]; exact hm0)
              have HU : Hid (ZsA w5 u15 (X.map fun x => x.d.un)) := zs_of hE5.own (i := 2) rfl (by rw [List.length_map, ← HM.out]; exact hm0)
              have HXa := Lib.hid hXa
              have HXu := Lib.hid hXu
              have HB5 := Lib.hid (up2 HB3.out HE.out.bel)
              have HS5 := Lib.hid (HS3.out.up HE.out.bel)
              have HSe : Hid (∀ k, k < n → w5.cell? ⟨g, k, none⟩ = some (.int .i64 1)) := fun k hk => by
                have := (HE.out.cell hk).1
                rw [cnt_all (by rw [← HMf.out]; exact Nat.le_refl _) hk] at this
                exact this
              clear hw5 hE5 hXa hXu HLa
              go_wp2_with fail
              go_loopw [14, 16, 142] (fun v14 v16 v142 wr => ∃ k : Nat, k ≤ n ∧ v142 = .int .i64 (k : Int) ∧ TwS w5 wr v14 ((List.range k).map fun k => aloV S (lnAt l k) d) v16 ((List.range k).map fun k => (lnAt l k).un)) (fun _ _ v142 _ => n - (intOf v142).toNat)
              case atStart => exact ⟨0, Nat.zero_le _, rfl, TwS.start _⟩
              case round =>
                obtain ⟨k, hk, rfl, hT⟩ := hrel
                have HTw := Lib.hid hT
                clear hT
                by_cases hkn : k < n
                · obtain ⟨z, hz⟩ : ∃ z, l[k]? = some z := ⟨l[k]'(by rw [← HN.out]; exact hkn), List.getElem?_eq_getElem _⟩
                  have hzm := List.mem_of_getElem? hz
                  obtain ⟨b, o, ha, c0, c1, c2, c3, c4⟩ := ln_at (HL.out.up (up2 HB5.out HTw.out.bel)) hz
                  subst ha
                  have hal := fun (W : World) (q : Below wr.heap.size wr W) => alone_any z d ((HS5.out.up HTw.out.bel).up q) (HAm.out z hzm)
                  simp only [HT.out.alo z hzm, Ln.val] at hal
                  have HAl := Lib.hid hal
                  have s0 := kcell HTw.out.bel (HSe.out k hkn)
                  have e2 : IntKind.i64.wrap ((k : Int) + 1) = (k : Int) + 1 := IntWalk.i64_in _ (by omega)
                  have hk0 : (0 : Int) ≤ (k : Int) := by omega
                  have HZ := Lib.hid hz
                  obtain ⟨av, hav⟩ : ∃ av, av = aloV S z d := ⟨_, rfl⟩
                  rw [← hav] at HAl
                  have HAv := Lib.hid hav
                  clear hz hzm hal hav
                  go_wp2_with fail
                  refine (HAl.out _ (boxed _ _)).mono ?_
                  rintro e w6 ⟨rfl, hb6⟩
                  have HBx := Lib.hid ((Has.fresh wr 45 #[.int .i64 z.it, .int .i64 z.un, .int .i64 z.ch, .int .i64 z.fi, .int .i64 z.la]).up hb6)
                  have HT6 := Lib.hid (HTw.out.up (up2 (boxed _ _) hb6))
                  have s1 := kcell (up2 (boxed _ _) hb6) s0
                  have b1 : w6.cell? ⟨wr.heap.size, 1, none⟩ = some (.int .i64 z.un) := HBx.out.cell 1
                  have hz1 : ((List.range k).map fun k => aloV S (lnAt l k) d).length ≤ 1000 := by rw [List.length_map, List.length_range]; omega
                  have hz2 : ((List.range k).map fun k => (lnAt l k).un).length ≤ 1000 := by rw [List.length_map, List.length_range]; omega
                  clear hb6 s0 c0 c1 c2 c3 c4
                  go_wp2_with fail
                  go_region_held3 (fun w' => w'.cell? ⟨wr.heap.size, 1, none⟩ = some (.int .i64 z.un))
                    (first | (go_keep; done) | (with_reducible exact kB5.out) | (with_reducible exact kB6.out))
                    (first | ((with_reducible refine at_w ((w6.alloc (.cells #[.int .i64 av] 2)).drew) ?_); refine step_run (by rfl) (.tmp 163) (.tmp 165) 41 (by rfl) _ _ (by rfl) (by rfl) (HT6.out.run1 HBx.out (by decide) ((boxed _ _).drew) hz1 av ((Has.fresh w6 2 #[.int .i64 av]).cell 0)) ?_; intro v5 x5 h5; have k5 := Lib.hid h5; have kB5 : Hid (x5.cell? ⟨wr.heap.size, 1, none⟩ = some (.int .i64 z.un)) := h5.box.cell 1; clear h5) | ((with_reducible refine at_w (((w6.alloc (.cells #[.int .i64 av] 2)).alloc (.cells #[.int .i64 z.un] 2)).drew) ?_); refine step_run (by rfl) (.tmp 163) (.tmp 165) 41 (by rfl) _ _ (by rfl) (by rfl) (HT6.out.run1 HBx.out (by decide) ((up2 (boxed _ _) (boxed _ _)).drew) hz1 av (by simp [go_sem])) ?_; intro v5 x5 h5; have k5 := Lib.hid h5; have kB5 : Hid (x5.cell? ⟨wr.heap.size, 1, none⟩ = some (.int .i64 z.un)) := h5.box.cell 1; clear h5) | ((with_reducible refine at_w (((w6.alloc (.cells #[.int .i64 z.un] 2)).alloc (.cells #[.int .i64 av] 2)).drew) ?_); refine step_run (by rfl) (.tmp 163) (.tmp 165) 41 (by rfl) _ _ (by rfl) (by rfl) (HT6.out.run1 HBx.out (by decide) ((up2 (boxed _ _) (boxed _ _)).drew) hz1 av (by simp [go_sem])) ?_; intro v5 x5 h5; have k5 := Lib.hid h5; have kB5 : Hid (x5.cell? ⟨wr.heap.size, 1, none⟩ = some (.int .i64 z.un)) := h5.box.cell 1; clear h5) | ((with_reducible refine at_w (x5.alloc (.cells #[.int .i64 z.un] 2)) ?_); refine step_run (by rfl) (.tmp 167) (.tmp 170) 41 (by rfl) _ _ (by rfl) (by rfl) (k5.out.ea.run2 k5.out.box (by decide) (boxed _ _) hz2 z.un ((Has.fresh x5 2 #[.int .i64 z.un]).cell 0)) ?_; intro v6 x6 h6; have k6 := Lib.hid h6; have kB6 : Hid (x6.cell? ⟨wr.heap.size, 1, none⟩ = some (.int .i64 z.un)) := h6.box.cell 1; clear h6) | ((with_reducible refine at_w (x5) ?_); refine step_run (by rfl) (.tmp 167) (.tmp 170) 41 (by rfl) _ _ (by rfl) (by rfl) (k5.out.ea.run2 k5.out.box (by decide) (Below.refl _ _) hz2 z.un (k5.out.keep _ _ _ (by simp) (by simp [go_sem]))) ?_; intro v6 x6 h6; have k6 := Lib.hid h6; have kB6 : Hid (x6.cell? ⟨wr.heap.size, 1, none⟩ = some (.int .i64 z.un)) := h6.box.cell 1; clear h6))
                  all_goals
                    clear b1 s1 k5 kB5 kB6
                    go_wp2_with fail
                    refine ⟨⟨k + 1, by omega, by go_num, ?_⟩, by simp [intOf]; omega⟩
                    have := k6.out.ea
                    rw [List.range_succ, List.map_append, List.map_append]
                    simp only [List.map_cons, List.map_nil]
                    rw [lnAt_some HZ.out, ← HAv.out]
                    exact this
                · obtain rfl : k = n := by omega
                  have HW : Hid (ZsA wr u14 ((List.range k).map fun k => aloV S (lnAt l k) d)) := zs_of HTw.out.own (i := 0) rfl (by rw [List.length_map, List.length_range]; exact hn0)
                  have HV : Hid (ZsA wr u16 ((List.range k).map fun k => (lnAt l k).un)) := zs_of HTw.out.own (i := 1) rfl (by rw [List.length_map, List.length_range]; exact hn0)
                  have hsums := du_sums S l d
                  have e1 : sumZ ((List.range k).map fun k => aloV S (lnAt l k) d) = sumZ (X.map fun x => x.d.al) := by
                    rw [HXa.out, sumZ_map, sumZ_map, HN.out]; exact hsums.1.symm
                  have e2 : sumZ ((List.range k).map fun k => (lnAt l k).un) = sumZ (X.map fun x => x.d.un) := by
                    rw [HXu.out, sumZ_map, sumZ_map, HN.out]; exact hsums.2.symm
                  have amA : ∀ y ∈ X.map (fun x => x.d.al), Am y := fun y hy => by
                    rw [HXa.out] at hy
                    obtain ⟨i, hi, rfl⟩ := List.mem_map.1 hy
                    exact (HT.out.am i (by rw [← HN.out]; exact hi)).1
                  have amU : ∀ y ∈ X.map (fun x => x.d.un), Am y := fun y hy => by
                    rw [HXu.out] at hy
                    obtain ⟨i, hi, rfl⟩ := List.mem_map.1 hy
                    exact (HT.out.am i (by rw [← HN.out]; exact hi)).2
                  have amW : ∀ y ∈ (List.range k).map (fun k => aloV S (lnAt l k) d), Am y := fun y hy => by
                    obtain ⟨i, hi, rfl⟩ := List.mem_map.1 hy
                    exact aloV_am _ _ _
                  have amV : ∀ y ∈ (List.range k).map (fun k => (lnAt l k).un), Am y := fun y hy => by
                    obtain ⟨i, hi, rfl⟩ := List.mem_map.1 hy
                    exact lnAt_mem (P := fun x => Am x.un) HAm.out (am_small (by decide) (by decide)) i
                  have lenX : (X.map fun x => x.d.al).length ≤ 1000 ∧ (X.map fun x => x.d.un).length ≤ 1000 := by
                    rw [List.length_map, List.length_map, ← HM.out]; omega
                  have lenR : ((List.range k).map fun k => aloV S (lnAt l k) d).length ≤ 1000 ∧ ((List.range k).map fun k => (lnAt l k).un).length ≤ 1000 := by
                    rw [List.length_map, List.length_map, List.length_range]; omega
                  have hc1 := zs_sum (HA.out.up HTw.out.bel) lenX.1 amA
                  have hc2 := fun (W : World) (q : Below wr.heap.size wr W) => zs_sum (HW.out.up q) lenR.1 amW
                  have hc3 := fun (W : World) (q : Below wr.heap.size wr W) => zs_sum ((HU.out.up HTw.out.bel).up q) lenX.2 amU
                  have hc4 := fun (W : World) (q : Below wr.heap.size wr W) => zs_sum (HV.out.up q) lenR.2 amV
                  rw [e1] at hc2
                  rw [e2] at hc4
                  obtain ⟨ZA, hZA⟩ : ∃ ZA, ZA = sumZ (X.map fun x => x.d.al) := ⟨_, rfl⟩
                  obtain ⟨ZU, hZU⟩ : ∃ ZU, ZU = sumZ (X.map fun x => x.d.un) := ⟨_, rfl⟩
                  rw [← hZA] at hc1 hc2
                  rw [← hZU] at hc3 hc4
                  have H1 := Lib.hid hc1
                  have H2 := Lib.hid hc2
                  have H3 := Lib.hid hc3
                  have H4 := Lib.hid hc4
                  clear hsums e1 e2 amA amU amW amV lenX lenR hc1 hc2 hc3 hc4 hZA hZU
                  go_wp2_with fail
                  refine H1.out.mono ?_
                  rintro e x1 ⟨rfl, hb⟩
                  have K1 := Lib.hid hb
                  clear hb
                  go_wp2_with fail
                  refine (H2.out _ K1.out).mono ?_
                  rintro e x2 ⟨rfl, hb⟩
                  have K2 := Lib.hid (up2 K1.out hb)
                  clear hb
                  go_wp2_with fail
                  refine (H3.out _ K2.out).mono ?_
                  rintro e x3 ⟨rfl, hb⟩
                  have K3 := Lib.hid (up2 K2.out hb)
                  clear hb
                  go_wp2_with fail
                  refine (H4.out _ K3.out).mono ?_
                  rintro e x4 ⟨rfl, hb⟩
                  have K4 := Lib.hid (up2 K3.out hb)
                  clear hb
                  go_wp2_with fail
                  go_ret
                  exact ⟨rfl, up2 (up2 HB5.out HTw.out.bel) K4.out⟩
        · have HF := Lib.hid hF
          have hne : (findE S l d != 0) = true := by simpa using hF
          have hm0 : m = 0 := by
            have := congrArg List.length HX.out
            rw [findV_no hF, List.length_map, ← HM.out] at this
            exact this
          subst hm0
          clear hF
          go_wp2_with fail
          go_ret
          exact ⟨rfl, HB3.out⟩
      · have HBd := Lib.hid (fun (W : World) (q : Below w.heap.size w W) => HBad.out W q hE)
        clear HBad HNew hE
        go_enter Try.func4, Try.ntmps4
        go_wp2_with fail
        refine HAw.out.mono ?_
        rintro e w1 ⟨rfl, hb⟩
        have HB1 := Lib.hid hb
        clear hb
        go_wp2_with fail
        refine (HBd.out _ HB1.out).mono ?_
        rintro e w2 ⟨rfl, hb⟩
        have HB2 := Lib.hid (up2 HB1.out hb)
        clear hb
        go_wp2_with fail
        go_ret
        exact ⟨rfl, HB2.out⟩
end Go.Proofs.Ytjmgncjadfhmcaa
