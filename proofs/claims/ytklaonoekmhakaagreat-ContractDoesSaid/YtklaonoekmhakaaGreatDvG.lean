/- The reference's Find. -/
import Derived.Test.YtklaonoekmhakaaGreatDvF
namespace Go.Proofs.YtklaonoekmhakaaGreat
open Go.RowKit

theorem fq_start (wb W : World) (me mi ma : Int) (hW : W = (((wb.alloc (.cells #[.slice none 0 0, .int .i64 0, .int .i64 0, .int .i64 me, .int .i64 mi, .int .i64 ma] 51)).alloc (.cells #[.int .i64 0, .slice none 0 0] 135)).alloc (.cells #[.int .i64 0, .slice none 0 0] 135)).drew) :
    FqS wb W wb.heap.size (wb.heap.size + 1) (wb.heap.size + 1 + 1) (.slice none 0 0) [] 0 0 me mi ma 0 0 none 0 0 0 0 none 0 0 := by
  obtain ⟨w1, h1⟩ : ∃ w1, w1 = wb.alloc (.cells #[.slice none 0 0, .int .i64 0, .int .i64 0, .int .i64 me, .int .i64 mi, .int .i64 ma] 51) := ⟨_, rfl⟩
  rw [← h1] at hW
  obtain ⟨w2, h2⟩ : ∃ w2, w2 = w1.alloc (.cells #[.int .i64 0, .slice none 0 0] 135) := ⟨_, rfl⟩
  rw [← h2] at hW
  have s1 : w1.heap.size = wb.heap.size + 1 := by rw [h1]; simp
  have s2 : w2.heap.size = wb.heap.size + 1 + 1 := by rw [h2]; simp; omega
  have b1 : Below wb.heap.size wb w1 := by rw [h1]; exact boxed _ _
  have b2 : Below w1.heap.size w1 w2 := by rw [h2]; exact boxed _ _
  have b3 : Below w2.heap.size w2 W := by rw [hW]; exact (boxed _ _).drew
  have d1 : Has w1 wb.heap.size 51 #[.slice none 0 0, .int .i64 0, .int .i64 0, .int .i64 me, .int .i64 mi, .int .i64 ma] := by rw [h1]; exact Has.fresh wb _ _
  have e1 : SmX w2 w1.heap.size 0 0 none 0 0 := by rw [h2]; exact SmX.start w1
  have e2 : SmX W w2.heap.size 0 0 none 0 0 := by rw [hW]; exact (SmX.start w2).drew
  rw [s1] at e1
  rw [s2] at e2
  exact ⟨up2 (up2 b1 b2) b3, (d1.up b2).up b3, .inl ⟨rfl, rfl⟩, e1.up b3, e2, by omega⟩
section
variable {w : World} {p : Nat} {S : Bs}
set_option maxRecDepth 100000 in
set_option maxHeartbeats 1000000 in
theorem qfind_neg (a : Option Addr) (n cap : Nat) (l : List Ln) (d : Int) (hd : d < 0) : Calls Tryz.prog 71 #[.pointer (some ⟨p, 0, none⟩), .slice a n cap, .int .i64 d] w (FindT w S l d) := by
  have hE : findE S l d = 1 := by unfold findE; rw [if_pos hd]
  have HE := Lib.hid hE
  clear hE
  go_enter Tryz.func71, Tryz.ntmps71
  go_wp2_with fail
  go_ret2
  exact findt_no HE.out (by decide) (Below.refl _ _)
set_option maxRecDepth 100000 in
set_option maxHeartbeats 1000000 in
theorem qfind_bad (a : Option Addr) (cap : Nat) (l : List Ln) (d : Int) (hd : 0 ≤ d) (h : Rb w p S) (hl : LnA w a l) (hc : chkE S l ≠ 0) : Calls Tryz.prog 71 #[.pointer (some ⟨p, 0, none⟩), .slice a l.length cap, .int .i64 d] w (FindT w S l d) := by
  have hE : findE S l d = chkE S l := by unfold findE; rw [if_neg (by omega), if_pos hc]
  have HC := Lib.hid (qcheck_any a cap l h hl)
  have HE := Lib.hid hE
  obtain ⟨c, hcc⟩ : ∃ c, c = chkE S l := ⟨_, rfl⟩
  rw [← hcc] at hc HC HE
  have HC0 := Lib.hid hc
  obtain ⟨n, hn⟩ : ∃ n, n = l.length := ⟨_, rfl⟩
  rw [← hn] at HC ⊢
  clear hE h hl hcc hn hc
  go_enter Tryz.func71, Tryz.ntmps71
  go_wp2_with fail
  refine HC.out.mono ?_
  rintro e w1 ⟨rfl, hb⟩
  have HB := Lib.hid hb
  have hne : (c != 0) = true := by simpa using HC0.out
  clear hb
  go_wp2_with fail
  go_ret2
  exact findt_no HE.out HC0.out HB.out
set_option maxRecDepth 100000 in
set_option maxHeartbeats 16000000 in
theorem qfind_good (a : Option Addr) (cap : Nat) (l : List Ln) (d : Int) (hd : 0 ≤ d) (h : Rb w p S) (F : FineB S) (hsl : S.L.length ≤ 1000) (hl : LnA w a l) (hc : chkE S l = 0) (hAm : ∀ x ∈ l, Am x.un) : Calls Tryz.prog 71 #[.pointer (some ⟨p, 0, none⟩), .slice a l.length cap, .int .i64 d] w (FindT w S l d) := by
  have HC := Lib.hid (qcheck_any a cap l h hl)
  rw [hc] at HC
  obtain ⟨h12, hall⟩ := chk_zero hc
  have HAll := Lib.hid hall
  have HAm := Lib.hid hAm
  have HTg := Lib.hid (fun (W : World) (hb : Below w.heap.size w W) (i k : Nat) (hi : i < l.length) (hk : k < l.length) => qtog_any (w := W) a l.length cap l i k rfl (h.up hb) (hl.up hb) hi hk fun x hx => (lnB_has (hall x hx)).1)
  have HAl := Lib.hid (fun (W : World) (hb : Below w.heap.size w W) (x : Ln) (hx : x ∈ l) => qalone_any x d (h.up hb) F hsl (hAm x hx))
  have HCz := Lib.hid hc
  have HL := Lib.hid hl
  have HRb := Lib.hid h
  obtain ⟨n, hn⟩ : ∃ n, n = l.length := ⟨_, rfl⟩
  have HN := Lib.hid hn
  rw [← hn] at HC HTg h12 ⊢
  clear h hl hc hAm hall hn F
  go_enter Tryz.func71, Tryz.ntmps71
  go_wp2_with fail
  refine HC.out.mono ?_
  rintro e w1 ⟨rfl, hb⟩
  have HB1 := Lib.hid hb
  clear hb HC
  go_wp2_with fail
  go_loopw [9, 10] (fun v9 v10 wr => ∃ (i : Nat) (Y : List DuX), i ≤ n ∧ v10 = .int .i64 (i : Int) ∧ FoS w1 wr S l d i v9 Y) (fun _ v10 _ => n - (intOf v10).toNat)
  case atStart => exact ⟨0, [], Nat.zero_le _, rfl, FoS.start _ _ _ _⟩
  case round =>
    obtain ⟨i, Y, hi, rfl, hO⟩ := hrel
    have HO := Lib.hid hO
    have HBo := Lib.hid (up2 HB1.out hO.bel)
    clear hO
    by_cases hin : i < n
    · have e1 : IntKind.i64.wrap ((i : Int) + 1) = (i : Int) + 1 := IntWalk.i64_in _ (by omega)
      go_wp2_with fail
      obtain ⟨wo, hwo⟩ : ∃ wo, wo = wr := ⟨_, rfl⟩
      rw [← hwo] at HO HBo ⊢
      clear hwo
      go_loopw [11, 12] (fun v11 v12 wr => ∃ k : Nat, k ≤ i ∧ v12 = .int .i64 (k : Int) ∧ v11 = .bool (noneB (dKey S l) i k) ∧ Below wo.heap.size wo wr) (fun _ v12 _ => i - (intOf v12).toNat)
      case atStart => exact ⟨0, Nat.zero_le _, rfl, rfl, Below.refl _ _⟩
      case round =>
        obtain ⟨k, hk, rfl, rfl, hb⟩ := hrel
        have HB := Lib.hid hb
        clear hb
        by_cases hki : k < i
        · have e2 : IntKind.i64.wrap ((k : Int) + 1) = (k : Int) + 1 := IntWalk.i64_in _ (by omega)
          have hst := none_step (dKey S l) i k
          have htog := tog_key S l i k
          have ht := HTg.out wr (up2 HBo.out HB.out) i k hin (by omega)
          rw [htog] at ht
          have HTo := Lib.hid ht
          cases q : noneB (dKey S l) i k with
          | true =>
            rw [q, Bool.true_and] at hst
            have HSt := Lib.hid hst
            clear hst htog ht q
            go_wp2_with fail
            refine HTo.out.mono ?_
            rintro e w2 ⟨rfl, hb2⟩
            have HB2 := Lib.hid (up2 HB.out hb2)
            clear hb2
            go_wp2_with fail
            refine ⟨⟨k + 1, by omega, by go_num, ?_, HB2.out⟩, by simp [intOf]; omega⟩
            rw [HSt.out]
          | false =>
            rw [q, Bool.false_and] at hst
            have HSt := Lib.hid hst
            clear hst htog ht q HTo
            go_wp2_with fail
            exact ⟨⟨k + 1, by omega, by go_num, by rw [HSt.out], HB.out⟩, by simp [intOf]; omega⟩
        · obtain rfl : k = i := by omega
          rw [none_fst]
          cases hf : isFst (dKey S l) k with
          | false =>
            have HO2 := Lib.hid ((HO.out.up HB.out).skip (by rw [hf]; simp))
            clear hf
            go_wp2_with fail
            exact ⟨⟨k + 1, Y, by omega, by go_num, HO2.out⟩, by simp [intOf]; omega⟩
          | true =>
            have HF := Lib.hid hf
            clear hf
            obtain ⟨wb, hwb⟩ : ∃ wb, wb = wr := ⟨_, rfl⟩
            rw [← hwb] at HB ⊢
            have HBb := Lib.hid (up2 HBo.out HB.out)
            have HOb := Lib.hid (HO.out.up HB.out)
            clear hwb
            obtain ⟨x, hx⟩ : ∃ x, l[k]? = some x := ⟨l[k]'(by rw [← HN.out]; exact hin), List.getElem?_eq_getElem _⟩
            obtain ⟨gx, ex, hgx, hIx⟩ := im_place (lnB_has (HAll.out x (List.mem_of_getElem? hx))).1
            obtain ⟨me, hme⟩ : ∃ me, me = (imAt S x).met := ⟨_, rfl⟩
            obtain ⟨qa, qc, la, lc, hRb⟩ := HRb.out.up HBb.out
            have q0 := hRb.c0
            obtain ⟨bi, oi, rfl, x0, x1, x2, x3⟩ := im_cells hRb.items hIx
            obtain ⟨b, o, rfl, c0, _, _, c3, c4⟩ := ln_at (HL.out.up HBb.out) hx
            rw [ex] at c0
            rw [← hme] at x2
            obtain ⟨NI, hNI⟩ : ∃ NI, NI = S.I.length := ⟨_, rfl⟩
            rw [← hNI] at q0 hgx
            have gx0 : (0 : Int) ≤ (gx : Int) := by omega
            have hk0 : (0 : Int) ≤ (k : Int) := by omega
            have n1 : wb.heap.size ≠ b := World.new_ne wb ⟨b, _, none⟩ c0
            have n2 : wb.heap.size ≠ bi := World.new_ne wb ⟨bi, _, none⟩ x2
            have n3 : wb.heap.size ≠ p := World.new_ne wb ⟨p, _, none⟩ q0
            have HX := Lib.hid hx
            have HMe := Lib.hid hme
            clear hx hIx hme hRb ex hNI x0 x1 x3
            go_wp2_with fail
            go_region_held3 (fun w' => w'.cell? ⟨p, 0, none⟩ = some (.slice (some ⟨bi, oi, none⟩) NI qc) ∧ w'.cell? ⟨b, o + k * 5, none⟩ = some (.int .i64 (gx : Int)) ∧ w'.cell? ⟨b, o + k * 5 + 3, none⟩ = some (.int .i64 x.fi) ∧ w'.cell? ⟨b, o + k * 5 + 4, none⟩ = some (.int .i64 x.la) ∧ w'.cell? ⟨bi, oi + gx * 4 + 2, none⟩ = some (.int .i64 me))
              (go_keep) (fail)
            go_wp2_with fail
            obtain ⟨W3, hW3⟩ : ∃ W3, W3 = (((wb.alloc (.cells #[.slice none 0 0, .int .i64 0, .int .i64 0, .int .i64 me, .int .i64 x.fi, .int .i64 x.la] 51)).alloc (.cells #[.int .i64 0, .slice none 0 0] 135)).alloc (.cells #[.int .i64 0, .slice none 0 0] 135)).drew := ⟨_, rfl⟩
            have hQ0 := fq_start wb W3 me x.fi x.la hW3
            rw [← hW3]
            obtain ⟨bu, hbu⟩ : ∃ bu, bu = wb.heap.size + 1 + 1 := ⟨_, rfl⟩
            obtain ⟨ba, hba⟩ : ∃ ba, ba = wb.heap.size + 1 := ⟨_, rfl⟩
            obtain ⟨bd, hbd⟩ : ∃ bd, bd = wb.heap.size := ⟨_, rfl⟩
            rw [← hbu, ← hba, ← hbd] at hQ0
            rw [← hbu, ← hba, ← hbd]
            have HQ0 := Lib.hid hQ0
            clear hQ0 hW3 hbu hba hbd n1 n2 n3 q0 c0 c3 c4 x2
            go_loopw [16] (fun v16 wr => ∃ j : Nat, k ≤ j ∧ j ≤ n ∧ v16 = .int .i64 (j : Int) ∧ (∃ (vl : Value) (sa : Int) (aa : Option Addr) (na ca : Nat) (su : Int) (au : Option Addr) (nu cu : Nat), FqS wb wr bd ba bu vl (mems (dKey S l) j k) 0 0 me (miT l k (mems (dKey S l) j k)) (maT l k (mems (dKey S l) j k)) (alT S l d (mems (dKey S l) j k)) sa aa na ca (unT l (mems (dKey S l) j k)) su au nu cu) ∧ ∀ t ∈ mems (dKey S l) j k, aloE S (lnAt l t) d = 0) (fun v16 _ => n - (intOf v16).toNat)
            case atStart =>
              refine ⟨k, Nat.le_refl _, by omega, rfl, ?_, ?_⟩
              · rw [mems_none HF.out]
                refine ⟨.slice none 0 0, 0, none, 0, 0, 0, none, 0, 0, ?_⟩
                show FqS wb W3 bd ba bu _ [] 0 0 me (lnAt l k).fi (lnAt l k).la 0 _ _ _ _ 0 _ _ _ _
                rw [lnAt_some HX.out]
                exact HQ0.out
              · rw [mems_none HF.out]
                intro t ht; cases ht
            case round =>
              obtain ⟨j, hkj, hjn, rfl, ⟨vl, sa, aa, na, ca, su, au, nu, cu, hQ⟩, h0⟩ := hrel
              have HQ := Lib.hid hQ
              have H0 := Lib.hid h0
              have HBr := Lib.hid (up2 HBb.out hQ.bel)
              clear hQ h0 HQ0
              have hml : (mems (dKey S l) j k).length ≤ 1000 := Nat.le_trans (mems_le _ _ _) (by omega)
              obtain ⟨hs1, hs2⟩ := sums_small (S := S) (d := d) HAm.out hml
              have HS1 := Lib.hid hs1
              have HS2 := Lib.hid hs2
              clear hs1 hs2
              by_cases hjn2 : j < n
              · obtain ⟨z, hz⟩ : ∃ z, l[j]? = some z := ⟨l[j]'(by rw [← HN.out]; exact hjn2), List.getElem?_eq_getElem _⟩
                have hzm := List.mem_of_getElem? hz
                have ht := HTg.out wr HBr.out k j hin hjn2
                rw [tog_key] at ht
                have e2 : IntKind.i64.wrap ((j : Int) + 1) = (j : Int) + 1 := IntWalk.i64_in _ (by omega)
                have hj0 : (0 : Int) ≤ (j : Int) := by omega
                by_cases q : dKey S l j = dKey S l k
                · rw [decide_eq_true q] at ht
                  have hms : mems (dKey S l) (j + 1) k = mems (dKey S l) j k ++ [j] := by rw [mems_step, if_pos q]
                  have HMs := Lib.hid hms
                  have HTo := Lib.hid ht
                  obtain ⟨ks, hks⟩ : ∃ ks, ks = mems (dKey S l) j k := ⟨_, rfl⟩
                  rw [← hks] at HQ H0 HS1 HS2 HMs hml
                  have hlz : lnAt l j = z := lnAt_some hz
                  have HLz := Lib.hid hlz
                  have hAl := fun (W : World) (hb : Below wr.heap.size wr W) => HAl.out W (up2 HBr.out hb) z hzm
                  simp only [Ln.val] at hAl
                  obtain ⟨V, hV⟩ : ∃ V, V = aloV S z d := ⟨_, rfl⟩
                  obtain ⟨E, hE⟩ : ∃ E, E = aloE S z d := ⟨_, rfl⟩
                  rw [← hV, ← hE] at hAl
                  have hVa : Am V := by rw [hV]; exact aloV_am _ _ _
                  have hUa := HAm.out z hzm
                  have HAz := Lib.hid hAl
                  have HV := Lib.hid hV
                  have HE := Lib.hid hE
                  have HLn := Lib.hid (HAll.out z hzm)
                  have HZ := Lib.hid hz
                  have hkj3 := Lib.hid q
                  clear ht hms hks hz hzm hlz hAl hV hE q
                  go_wp2_with fail
                  refine HTo.out.mono ?_
                  rintro e w5 ⟨rfl, hb5⟩
                  have HQ5 := Lib.hid (HQ.out.up hb5)
                  have HB5 := Lib.hid hb5
                  obtain ⟨b2, o2, hb2, c0, c1, c2, c3, c4⟩ := ln_at (HL.out.up (up2 HBr.out hb5)) HZ.out
                  obtain ⟨rfl, rfl⟩ : b = b2 ∧ o = o2 := by injection hb2 with y; injection y with y1 y2; exact ⟨y1, y2⟩
                  clear hb5 hb2 HTo
                  go_wp2_with fail
                  refine (HAz.out _ HB5.out).mono ?_
                  rintro e w6 ⟨rfl, hb6⟩
                  have HQ6 := Lib.hid (HQ5.out.up hb6)
                  have HB6 := Lib.hid (up2 (up2 HBr.out HB5.out) hb6)
                  clear hb6 c0 c1 c2 c3 c4
                  by_cases f0 : E = 0
                  · have HE0 : Hid (aloE S z d = 0) := HE.out.symm.trans f0
                    subst f0
                    obtain ⟨b2, o2, hb2, z0, z1, z2, z3, z4⟩ := ln_at (HL.out.up HB6.out) HZ.out
                    obtain ⟨rfl, rfl⟩ : b = b2 ∧ o = o2 := by injection hb2 with y; injection y with y1 y2; exact ⟨y1, y2⟩
                    clear hb2
                    obtain ⟨f1, f2⟩ := hVa
                    obtain ⟨u1, u2⟩ := hUa
                    obtain ⟨c0, c1, e0', e1'⟩ := HQ6.out.al.row
                    go_wp2_with fail
                    go_cut [17] (fun _ wx => ∃ (s2 : Int) (a3 : Option Addr) (n2 p2 : Nat), Hid (FqS wb wx bd ba bu vl ks 0 0 me (miT l k ks) (maT l k ks) (alT S l d ks + V) s2 a3 n2 p2 (unT l ks) su au nu cu))
                    case first =>
                      go_region_with (first | (go_at_call 77; ((with_reducible refine (of_any V _ f1 f2).mono ?_); rintro e' y1 ⟨s1, a1, n1, p1, rfl, hE1, hb1⟩; have kQ1 := Lib.hid (HQ6.out.drew.up hb1); have kE1 := Lib.hid hE1; clear hE1 hb1; obtain ⟨r0, r1, r2, r3⟩ := kQ1.out.al.row)) | (go_at_call 76; ((with_reducible refine (plus_ex sa s1 (alT S l d ks) V aa a1 na n1 ca p1 _ kQ1.out.al.ex kE1.out HS1.out (small64 f1 f2)).mono ?_); rintro e' y2 ⟨s2, a3, n2, p2, rfl, hE2, hb2⟩; have kQ2 := Lib.hid (kQ1.out.up hb2); have kE2 := Lib.hid hE2; clear hE2 hb2; obtain ⟨t0, t1, t2, t3⟩ := kQ2.out.al.row)))
                      all_goals
                        go_wp2_with fail
                        go_meet
                        exact ⟨s2, a3, n2, p2, Lib.hid (kQ2.out.putA kE2.out)⟩
                    case rest =>
                      obtain ⟨s2, a3, n2, p2, HQ7⟩ := hcut
                      clear c0 c1 e0' e1' z0 z1 z2 z3 z4 HQ6 HQ5 HQ HB6 HB5 HAz
                      obtain ⟨b2, o2, hb2, z0, z1, z2, z3, z4⟩ := ln_at (HL.out.up (up2 HBb.out HQ7.out.bel)) HZ.out
                      obtain ⟨rfl, rfl⟩ : b = b2 ∧ o = o2 := by injection hb2 with y; injection y with y1 y2; exact ⟨y1, y2⟩
                      clear hb2
                      obtain ⟨c0, c1, e0', e1'⟩ := HQ7.out.un.row
                      go_wp2_with fail
                      go_cut [17] (fun _ wx => ∃ (s4 : Int) (a5 : Option Addr) (n4 p4 : Nat), Hid (FqS wb wx bd ba bu vl ks 0 0 me (miT l k ks) (maT l k ks) (alT S l d ks + V) s2 a3 n2 p2 (unT l ks + z.un) s4 a5 n4 p4))
                      case first =>
                        go_region_with (first | (go_at_call 77; ((with_reducible refine (of_any z.un _ u1 u2).mono ?_); rintro e' y1 ⟨s1, a1, n1, p1, rfl, hE1, hb1⟩; have kQ1 := Lib.hid (HQ7.out.drew.up hb1); have kE1 := Lib.hid hE1; clear hE1 hb1; obtain ⟨r0, r1, r2, r3⟩ := kQ1.out.un.row)) | (go_at_call 76; ((with_reducible refine (plus_ex su s1 (unT l ks) z.un au a1 nu n1 cu p1 _ kQ1.out.un.ex kE1.out HS2.out (small64 u1 u2)).mono ?_); rintro e' y2 ⟨s4, a5, n4, p4, rfl, hE2, hb2⟩; have kQ2 := Lib.hid (kQ1.out.up hb2); have kE2 := Lib.hid hE2; clear hE2 hb2; obtain ⟨t0, t1, t2, t3⟩ := kQ2.out.un.row)))
                        all_goals
                          go_wp2_with fail
                          go_meet
                          exact ⟨s4, a5, n4, p4, Lib.hid (kQ2.out.putU kE2.out)⟩
                      case rest =>
                        obtain ⟨s4, a5, n4, p4, HQ8⟩ := hcut
                        clear c0 c1 e0' e1' z0 z1 z2 z3 z4 HQ7
                        obtain ⟨wy, hwy⟩ : ∃ wy, wy = wc := ⟨_, rfl⟩
                        rw [← hwy] at HQ8 ⊢
                        clear hwy
                        have d0 : wy.cell? ⟨bd, 0, none⟩ = some vl := HQ8.out.d.cell 0
                        obtain ⟨a8, c8, w9, hr9, k0, kf, hQ9⟩ := (HQ8.out.up (boxed wy (.cells #[.int .i64 (j : Int)] 3))).putL hml (Has.fresh _ _ _)
                        have H9 := Lib.hid hr9
                        obtain ⟨W9, hW9⟩ : ∃ W9, W9 = w9.setCell ⟨bd, 0, none⟩ (.slice a8 (ks.length + 1) c8) := ⟨_, rfl⟩
                        rw [← hW9] at hQ9
                        have HQ9 := Lib.hid hQ9
                        have HW9 := Lib.hid hW9
                        clear hr9 hQ9 hW9
                        go_wp2_with (first | (at_builtin; refine wpList_run (o := ⟨some 121, _, _, _, _, _⟩) rfl (.tmp 118) (.tmp 120) 49 rfl _ _ rfl rfl (S := fun u q => .slice a8 (ks.length + 1) c8 = u ∧ w9 = q) ⟨_, w9, H9.out, rfl, rfl⟩ ?_; rintro u9 q9 ⟨rfl, rfl⟩) | fail)
                        rw [← HW9.out]
                        clear d0 k0 kf
                        obtain ⟨b2, o2, hb2, z0, z1, z2, z3, z4⟩ := ln_at (HL.out.up (up2 HBb.out HQ9.out.bel)) HZ.out
                        obtain ⟨rfl, rfl⟩ : b = b2 ∧ o = o2 := by injection hb2 with y; injection y with y1 y2; exact ⟨y1, y2⟩
                        have d4 : W9.cell? ⟨bd, 4, none⟩ = some (.int .i64 (miT l k ks)) := HQ9.out.d.cell 4
                        have f4 := HQ9.out.d.free 4
                        clear hb2
                        go_region
                        all_goals
                          obtain ⟨W10, hW10⟩ : ∃ W10, W10 = (W9.setCell ⟨bd, 4, none⟩ (.int .i64 (min (miT l k ks) z.fi))).drew := ⟨_, rfl⟩
                          rw [← hW10]
                          have hQ10 : FqS wb W10 bd ba bu (.slice a8 (ks.length + 1) c8) (ks ++ [j]) 0 0 me (min (miT l k ks) z.fi) (maT l k ks) (alT S l d ks + V) s2 a3 n2 p2 (unT l ks + z.un) s4 a5 n4 p4 := by
                            rw [hW10]
                            exact (HQ9.out.putD 4 (.int .i64 (min (miT l k ks) z.fi)) rfl).drew
                          have HQ10 := Lib.hid hQ10
                          clear hQ10 hW10 z0 z1 z2 z3 z4 d4 f4
                          obtain ⟨b2, o2, hb2, z0, z1, z2, z3, z4⟩ := ln_at (HL.out.up (up2 HBb.out HQ10.out.bel)) HZ.out
                          obtain ⟨rfl, rfl⟩ : b = b2 ∧ o = o2 := by injection hb2 with y; injection y with y1 y2; exact ⟨y1, y2⟩
                          have d5 : W10.cell? ⟨bd, 5, none⟩ = some (.int .i64 (maT l k ks)) := HQ10.out.d.cell 5
                          have f5 := HQ10.out.d.free 5
                          clear hb2
                          go_wp2_with fail
                          go_region
                          all_goals
                            obtain ⟨W11, hW11⟩ : ∃ W11, W11 = (W10.setCell ⟨bd, 5, none⟩ (.int .i64 (max (maT l k ks) z.la))).drew := ⟨_, rfl⟩
                            rw [← hW11]
                            have hQ11 : FqS wb W11 bd ba bu (.slice a8 (ks.length + 1) c8) (ks ++ [j]) 0 0 me (min (miT l k ks) z.fi) (max (maT l k ks) z.la) (alT S l d ks + V) s2 a3 n2 p2 (unT l ks + z.un) s4 a5 n4 p4 := by
                              rw [hW11]
                              exact (HQ10.out.putD 5 (.int .i64 (max (maT l k ks) z.la)) rfl).drew
                            have HQ11 := Lib.hid hQ11
                            clear hQ11 hW11 z0 z1 z2 z3 z4 d5 f5
                            go_wp2_with fail
                            refine ⟨⟨j + 1, by omega, by omega, by go_num, ?_, ?_⟩, by simp [intOf]; omega⟩
                            · rw [HMs.out]
                              refine ⟨.slice a8 (ks.length + 1) c8, s2, a3, n2, p2, s4, a5, n4, p4, ?_⟩
                              have e3 : miT l k (ks ++ [j]) = min (miT l k ks) z.fi := by rw [miT_snoc, HLz.out]
                              have e4 : maT l k (ks ++ [j]) = max (maT l k ks) z.la := by rw [maT_snoc, HLz.out]
                              have e5 : alT S l d (ks ++ [j]) = alT S l d ks + V := by
                                unfold alT; rw [sumD_snoc, HLz.out, ← HV.out]
                              have e6 : unT l (ks ++ [j]) = unT l ks + z.un := by
                                unfold unT; rw [sumD_snoc, HLz.out]
                              rw [e3, e4, e5, e6]
                              exact HQ11.out
                            · rw [HMs.out]
                              intro t ht
                              rcases List.mem_append.1 ht with ht | ht
                              · exact H0.out t ht
                              · rw [List.mem_singleton.1 ht, HLz.out]; exact HE0.out
                  · have hE3 : E = 3 := by
                      have := aloE_cases (S := S) (x := z) (d := d) HLn.out hd
                      rw [← HE.out] at this
                      rcases this with y | y
                      · exact absurd y f0
                      · exact y
                    have hF3 : findE S l d = 3 := by
                      refine find_three hd HCz.out (i := k) (mem_fsts.2 ⟨by rw [← HN.out]; exact hin, isFst_iff.1 HF.out⟩) (over_alo (k := j) (mem_mems.2 ⟨by rw [← HN.out]; exact hjn2, hkj3.out⟩) ?_)
                      rw [HLz.out, ← HE.out]; exact f0
                    have HF3 := Lib.hid hF3
                    subst hE3
                    clear hF3 f0
                    go_wp2_with fail
                    go_ret2
                    exact findt_no HF3.out (by decide) HB6.out
                · rw [decide_eq_false q] at ht
                  have hms : mems (dKey S l) (j + 1) k = mems (dKey S l) j k := by rw [mems_step, if_neg q, List.append_nil]
                  have HMs := Lib.hid hms
                  have HTo := Lib.hid ht
                  clear ht hms q hz hzm
                  go_wp2_with fail
                  refine HTo.out.mono ?_
                  rintro e w5 ⟨rfl, hb5⟩
                  have HQ5 := Lib.hid (HQ.out.up hb5)
                  clear hb5
                  go_wp2_with fail
                  refine ⟨⟨j + 1, by omega, by omega, by go_num, ?_, ?_⟩, by simp [intOf]; omega⟩
                  · rw [HMs.out]; exact ⟨_, _, _, _, _, _, _, _, _, HQ5.out⟩
                  · rw [HMs.out]; exact H0.out
              · obtain rfl : j = n := by omega
                obtain ⟨ks, hks⟩ : ∃ ks, ks = mems (dKey S l) j k := ⟨_, rfl⟩
                rw [← hks] at HQ H0 HS1 HS2 hml
                have hkk : k ∈ ks := by rw [hks]; exact mem_mems.2 ⟨hin, rfl⟩
                have hkf : k ∈ fsts (dKey S l) l.length := mem_fsts.2 ⟨by rw [← HN.out]; exact hin, isFst_iff.1 HF.out⟩
                have hksl : ks = mems (dKey S l) l.length k := by rw [hks, HN.out]
                have hdu : duAt S l d k = ⟨ks, alT S l d ks, unT l ks, me, miT l k ks, maT l k ks⟩ := by
                  rw [duAt_of, ← hksl, HMe.out, ← lnAt_some HX.out]; rfl
                obtain ⟨av, cv, hvl, hnt⟩ := HQ.out.row.nst (List.ne_nil_of_mem hkk)
                obtain ⟨AL, hAL⟩ : ∃ AL, AL = alT S l d ks := ⟨_, rfl⟩
                obtain ⟨UN, hUN⟩ : ∃ UN, UN = unT l ks := ⟨_, rfl⟩
                obtain ⟨MI, hMI⟩ : ∃ MI, MI = miT l k ks := ⟨_, rfl⟩
                obtain ⟨MA, hMA⟩ : ∃ MA, MA = maT l k ks := ⟨_, rfl⟩
                rw [← hAL, ← hUN, ← hMI, ← hMA] at hdu
                rw [← hAL, ← hUN, ← hMI, ← hMA] at HQ
                rw [← hAL] at HS1
                rw [← hUN] at HS2
                have HAL := Lib.hid hAL
                have HUN := Lib.hid hUN
                have HDu := Lib.hid hdu
                have HKf := Lib.hid hkf
                have HKs := Lib.hid hksl
                have HVl := Lib.hid hvl
                have HF1 := Lib.hid (fit_any sa AL aa na ca wr HQ.out.al.ex HS1.out)
                have HF2 := Lib.hid (fun (W : World) (q : Below wr.heap.size wr W) => fit_any su UN au nu cu W (HQ.out.un.ex.below q) HS2.out)
                obtain ⟨c0, c1, _, _⟩ := HQ.out.al.row
                clear hks hkk hkf hksl hdu hvl hnt hAL hUN hMI hMA
                go_wp2_with fail
                refine HF1.out.mono ?_
                rintro e w5 ⟨rfl, hb5⟩
                have HQ5 := Lib.hid (HQ.out.up hb5)
                have HB5 := Lib.hid hb5
                obtain ⟨v0, v1, _, _⟩ := HQ5.out.un.row
                clear hb5 c0 c1
                go_wp2_with fail
                refine (HF2.out _ HB5.out).mono ?_
                rintro e w6 ⟨rfl, hb6⟩
                have HQ6 := Lib.hid (HQ5.out.up hb6)
                have HB6 := Lib.hid (up2 (up2 HBr.out HB5.out) hb6)
                clear hb6 v0 v1
                rw [tellE_du, tellE_du]
                by_cases g1 : am64 AL = true
                · rw [if_pos g1, tellV_du g1]
                  by_cases g2 : am64 UN = true
                  · rw [if_pos g2, tellV_du g2]
                    have hov : dOver S l d (mems (dKey S l) l.length k) = false := by
                      rw [← HKs.out]
                      exact over_no H0.out (by rw [← HAL.out]; exact g1) (by rw [← HUN.out]; exact g2)
                    have HOv := Lib.hid hov
                    obtain ⟨W7, hW7⟩ : ∃ W7, W7 = (w6.setCell ⟨bd, 1, none⟩ (.int .i64 AL)).setCell ⟨bd, 2, none⟩ (.int .i64 UN) := ⟨_, rfl⟩
                    have hQ7 : FqS wb W7 bd ba bu vl ks AL UN me MI MA AL sa aa na ca UN su au nu cu := by
                      rw [hW7]
                      exact (HQ6.out.putD (d1' := AL) 1 (.int .i64 AL) rfl).putD 2 (.int .i64 UN) rfl
                    obtain ⟨av, cv, hvl, hnt⟩ := hQ7.row.nst (by
                      have := mems_head HKf.out
                      obtain ⟨u, hu⟩ := this
                      rw [HKs.out, hu]; simp)
                    subst hvl
                    have hcp := boxed W7 (.cells #[.slice av ks.length cv, .int .i64 AL, .int .i64 UN, .int .i64 me, .int .i64 MI, .int .i64 MA] 51)
                    obtain ⟨DX, hDX⟩ : ∃ DX : DuX, DX = ⟨av, cv, ⟨ks, AL, UN, me, MI, MA⟩⟩ := ⟨_, rfl⟩
                    have hx1 : DX.d = duAt S l d k := by rw [HDu.out, hDX]
                    have hx2 : NsT (W7.alloc (.cells #[.slice av ks.length cv, .int .i64 AL, .int .i64 UN, .int .i64 me, .int .i64 MI, .int .i64 MA] 51)) DX.a DX.d.ls := by rw [hDX]; exact hnt.up hcp
                    have hx3 : Has (W7.alloc (.cells #[.slice av ks.length cv, .int .i64 AL, .int .i64 UN, .int .i64 me, .int .i64 MI, .int .i64 MA] 51)) W7.heap.size 51 DX.cells.toArray := by
                      have e : DX.cells.toArray = #[.slice av ks.length cv, .int .i64 AL, .int .i64 UN, .int .i64 me, .int .i64 MI, .int .i64 MA] := by rw [hDX]; rfl
                      rw [e]; exact Has.fresh _ _ _
                    have hk1000 : k ≤ 1000 := by omega
                    obtain ⟨v8, w8, hr8, hO8⟩ := FoS.more ((HOb.out.up hQ7.bel).up hcp) hk1000 HF.out HOv.out hx1 hx2 hx3
                    have hsz : W7.heap.size = w6.heap.size := by rw [hW7]; simp
                    rw [hsz] at hr8
                    clear hx1 hx2 hx3 hDX hk1000 hsz
                    have H8 := Lib.hid hr8
                    have HO8 := Lib.hid hO8
                    have d0 : w6.cell? ⟨bd, 0, none⟩ = some (.slice av ks.length cv) := HQ6.out.d.cell 0
                    have d1 : w6.cell? ⟨bd, 1, none⟩ = some (.int .i64 0) := HQ6.out.d.cell 1
                    have d2 : w6.cell? ⟨bd, 2, none⟩ = some (.int .i64 0) := HQ6.out.d.cell 2
                    have d3 : w6.cell? ⟨bd, 3, none⟩ = some (.int .i64 me) := HQ6.out.d.cell 3
                    have d4 : w6.cell? ⟨bd, 4, none⟩ = some (.int .i64 MI) := HQ6.out.d.cell 4
                    have d5 : w6.cell? ⟨bd, 5, none⟩ = some (.int .i64 MA) := HQ6.out.d.cell 5
                    have f1 := HQ6.out.d.free 1
                    have f2 := HQ6.out.d.free 2
                    have HW7 := Lib.hid hW7
                    clear hov hQ7 hnt hcp hr8 hO8 hW7 g1 g2
                    go_wp2_with (first | (at_builtin; rw [← HW7.out]; refine wpList_run (o := ⟨some 164, _, _, _, _, _⟩) rfl (.tmp 161) (.tmp 163) 119 rfl _ _ rfl rfl (S := fun u q => v8 = u ∧ w8 = q) ⟨v8, w8, H8.out, rfl, rfl⟩ ?_; rintro u8 q8 ⟨rfl, rfl⟩) | fail)
                    exact ⟨⟨k + 1, _, by omega, by go_num, HO8.out⟩, by simp [intOf]; omega⟩
                  · have hF3 : findE S l d = 3 := find_three hd HCz.out HKf.out (by
                      rw [← HKs.out]
                      exact over_al (.inr (by rw [← HUN.out]; simpa using g2)))
                    have HF3 := Lib.hid hF3
                    rw [if_neg g2]
                    clear hF3 g1 g2
                    go_wp2_with fail
                    go_ret2
                    exact findt_no HF3.out (by decide) HB6.out
                · have hF3 : findE S l d = 3 := find_three hd HCz.out HKf.out (by
                    rw [← HKs.out]
                    exact over_al (.inl (by rw [← HAL.out]; simpa using g1)))
                  have HF3 := Lib.hid hF3
                  rw [if_neg g1]
                  obtain ⟨E2, hE2⟩ : ∃ E2 : Int, E2 = if am64 UN = true then 0 else 3 := ⟨_, rfl⟩
                  obtain ⟨V2, hV2⟩ : ∃ V2 : Int, V2 = tellV UN := ⟨_, rfl⟩
                  obtain ⟨V1, hV1⟩ : ∃ V1 : Int, V1 = tellV AL := ⟨_, rfl⟩
                  rw [← hE2, ← hV2, ← hV1]
                  clear hF3 g1 hE2 hV2 hV1 HAL HUN
                  go_wp2_with fail
                  go_ret2
                  exact findt_no HF3.out (by decide) HB6.out
    · obtain rfl : i = n := by omega
      have hD := HO.out
      rw [HN.out] at hD
      have HD := Lib.hid (hD.done hd HCz.out HB1.out)
      clear hD
      go_wp2_with fail
      refine bodyPost_ret (by simp [results, Tryz.results71, go_sem]) rfl HD.out
theorem qfindT_any (a : Option Addr) (cap : Nat) (l : List Ln) (d : Int) (h : Rb w p S) (F : FineB S) (hsl : S.L.length ≤ 1000) (hl : LnA w a l) (hAm : ∀ x ∈ l, Am x.un) : Calls Tryz.prog 71 #[.pointer (some ⟨p, 0, none⟩), .slice a l.length cap, .int .i64 d] w (FindT w S l d) := by
  by_cases hd : d < 0
  · exact qfind_neg a _ cap l d hd
  · by_cases hc : chkE S l = 0
    · exact qfind_good a cap l d (by omega) h F hsl hl hc hAm
    · exact qfind_bad a cap l d (by omega) h hl hc
end
end Go.Proofs.YtklaonoekmhakaaGreat
