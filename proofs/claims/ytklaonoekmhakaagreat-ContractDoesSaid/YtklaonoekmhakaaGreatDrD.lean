/- The reference's contract: New's walk. -/
import Derived.Test.YtklaonoekmhakaaGreatCqF
import Derived.Test.YtklaonoekmhakaaGreatCtMem
import Derived.Test.YtklaonoekmhakaaGreatBoD
import Derived.Test.YtklaonoekmhakaaGreatBc
import Derived.Test.YtklaonoekmhakaaGreatDrA
namespace Go.Proofs.YtklaonoekmhakaaGreat
open Go.RowKit

/-- obligations whose places lie in blocks of ints -/
structure DusN (w : World) (a : Option Addr) (X : List DuX) : Prop where
  A : DusA w a X
  T : ∀ y ∈ X, NsT w y.a y.d.ls
theorem DusN.up {w w' : World} {a : Option Addr} {X : List DuX} (h : DusN w a X) (q : Below w.heap.size w w') : DusN w' a X := ⟨h.A.up q, fun y hy => (h.T y hy).up q⟩
theorem nst_ins {w : World} {a : Option Addr} {l : List Nat} (h : NsT w a l) : NsI w a (l.map fun (k : Nat) => (k : Int)) := by
  obtain ⟨g, cs, h1, h2, h3⟩ := h
  refine .inr ⟨g, cs, h1, h2, fun i k hx => ?_⟩
  rw [List.getElem?_map] at hx
  cases q : l[i]? with
  | none => rw [q] at hx; cases hx
  | some z =>
    rw [q] at hx
    obtain rfl : (z : Int) = k := Option.some.inj hx
    exact h3 i z q
theorem QCnR.yes {w w' : World} {x : Askd} {c : Nat} {P : List (Nat × Nat)} (h : x.E = 0) (hb : Below w.heap.size w w') (hc : Cq w' c P x.C) (hg : ∀ g, Cqs c P g → w.heap.size ≤ g) : QCnR w x (.returned (.tuple #[.pointer (some ⟨c, 0, none⟩), .int .i64 0])) w' := ⟨hb, .inr ⟨h, c, P, rfl, hc, hg⟩⟩
set_option maxRecDepth 100000 in
set_option maxHeartbeats 16000000 in
theorem qcnew_any {w : World} {bp : Nat} (x : Askd) (la ma : Option Addr) (lc mc : Nat) (h : Rb w bp x.S) (F : FineB x.S) (hsl : x.S.L.length ≤ 1000) (hl : LnA w la x.l) (hln : x.l.length ≤ 1000) (hAm : ∀ y ∈ x.l, Am y.un ∧ Am y.ch) (hm : MbA w ma x.m) (hmg : ∀ y ∈ x.m, mbG y) :
    Calls Tryz.prog 35 #[.pointer (some ⟨bp, 0, none⟩), .slice la x.l.length lc, .slice ma x.m.length mc, .int .i64 x.b, .int .i64 x.d] w (QCnR w x) := by
  have HFind := Lib.hid (fun (W : World) (q : Below w.heap.size w W) => qfindT_any la lc x.l x.d (h.up q) F hsl (hl.up q) fun y hy => (hAm y hy).1)
  have HChg := Lib.hid (fun (W : World) (q : Below w.heap.size w W) => qcharge_any la lc x.l W (hl.up q) hln fun y hy => (hAm y hy).2)
  have HLik := Lib.hid (fun (W : World) (q : Below w.heap.size w W) => qlik_any x.fix x.b ma x.m.length mc x.m W rfl (hm.up q) (by unfold Askd.fix; exact tellV_am _) hmg)
  have HE : Hid (x.E = if x.d < 1 ∨ 1000000 < x.d then 1 else if findE x.S x.l x.d ≠ 0 then findE x.S x.l x.d else if tellE (sumTo (chF x.l) x.l.length) ≠ 0 then tellE (sumTo (chF x.l) x.l.length)
    else if likE x.fix x.m x.b ≠ 0 then likE x.fix x.m x.b else allE x.N x.alo x.n) := Lib.hid rfl
  have HFx : Hid (x.fix = tellV (sumTo (chF x.l) x.l.length)) := Lib.hid rfl
  have HNx : Hid (x.N = likV x.fix x.m x.b) := Lib.hid rfl
  have HNo := Lib.hid (fun (w' : World) (X : Int) => @QCnR.no w w' x X)
  have HFine := Lib.hid (fun (q : x.E = 0) => Askd.fine F q)
  have HOk := Lib.hid (fun (q : findE x.S x.l x.d = 0) => find_ok F q)
  have HLen := Lib.hid (fun (q : findE x.S x.l x.d = 0) => find_len (S := x.S) (l := x.l) (d := x.d) q)
  have HZero := Lib.hid (fun (q : x.E = 0) => Askd.zero q)
  have HAloA := Lib.hid (fun (q : findE x.S x.l x.d = 0) => askd_alo_am x F q)
  have HNA := Lib.hid (fun (q : likE x.fix x.m x.b = 0) => askd_N_am x q)
  have HYes := Lib.hid (fun (w' : World) (c : Nat) (P : List (Nat × Nat)) => @QCnR.yes w w' x c P)
  unfold FindT at HFind
  unfold ChR at HChg
  unfold CopR at HLik
  obtain ⟨dd, hdd⟩ : ∃ dd, dd = x.d := ⟨_, rfl⟩
  obtain ⟨bb, hbb⟩ : ∃ bb, bb = x.b := ⟨_, rfl⟩
  obtain ⟨ln, hlnn⟩ : ∃ ln, ln = x.l.length := ⟨_, rfl⟩
  obtain ⟨mn, hmn⟩ : ∃ mn, mn = x.m.length := ⟨_, rfl⟩
  obtain ⟨fe, hfe⟩ : ∃ fe, fe = findE x.S x.l x.d := ⟨_, rfl⟩
  rw [← hfe] at HFind HE HOk HLen HAloA
  rw [← hdd] at HFind HE ⊢
  obtain ⟨ce, hce⟩ : ∃ ce, ce = tellE (sumTo (chF x.l) x.l.length) := ⟨_, rfl⟩
  obtain ⟨le, hle⟩ : ∃ le, le = likE x.fix x.m x.b := ⟨_, rfl⟩
  rw [← hce] at HChg HE
  rw [← HFx.out] at HChg
  rw [← hle] at HLik HE HNA
  rw [← HNx.out] at HLik
  rw [← hbb] at HLik ⊢
  rw [← hlnn] at HFind HChg ⊢
  rw [← hmn] at HLik ⊢
  have HDd := Lib.hid hdd
  obtain ⟨fx, hfx⟩ : ∃ fx, fx = x.fix := ⟨_, rfl⟩
  rw [← hfx] at HChg HLik
  obtain ⟨NN, hNN⟩ : ∃ NN, NN = x.N := ⟨_, rfl⟩
  rw [← hNN] at HLik
  have HNn := Lib.hid hNN
  clear h F hsl hl hln hAm hm hmg hdd hbb hlnn hmn hfe hce hle hfx hNN
  go_enter Tryz.func35, Tryz.ntmps35
  by_cases q0 : dd < 1 ∨ 1000000 < dd
  · have hX : x.E = 1 := by rw [HE.out, if_pos q0]
    have HX := Lib.hid hX
    clear hX
    rcases q0 with q0 | q0
    · go_wp2_with fail
      go_ret2
      exact HNo.out _ _ HX.out (by decide) (Below.refl _ _)
    · have q2 : ¬ dd < 1 := by omega
      go_wp2_with fail
      go_ret2
      exact HNo.out _ _ HX.out (by decide) (Below.refl _ _)
  have hE1 := HE.out
  rw [if_neg q0] at hE1
  have HE1 := Lib.hid hE1
  have q0a : ¬ dd < 1 := by omega
  have q0b : ¬ 1000000 < dd := by omega
  clear q0 hE1
  go_wp2_with fail
  refine (HFind.out _ (Below.refl _ _)).mono ?_
  rintro e w1 ⟨da, dc, X, rfl, hX, hA, hb, hT⟩
  have HX := Lib.hid hX
  have HA := Lib.hid (DusN.mk hA hT)
  have HB1 := Lib.hid hb
  clear hX hA hb hT
  by_cases q1 : fe = 0
  rotate_left
  · have q1' : (fe != 0) = true := by simpa using q1
    have hX : x.E = fe := by rw [HE1.out, if_pos q1]
    have HXe := Lib.hid hX
    have HQ1 := Lib.hid q1
    clear q1 hX
    go_wp2_with fail
    go_ret2
    exact HNo.out _ _ HXe.out HQ1.out HB1.out
  have q1' : (fe != 0) = false := by simpa using q1
  have hE2 := HE1.out
  rw [if_neg (by simpa using q1)] at hE2
  have HE2 := Lib.hid hE2
  have HQ1 := Lib.hid q1
  clear q1 hE2
  go_wp2_with fail
  refine (HChg.out _ HB1.out).mono ?_
  rintro e w2 ⟨rfl, hb⟩
  have HB2 := Lib.hid (up2 HB1.out hb)
  have HA2 := Lib.hid (HA.out.up hb)
  clear hb
  by_cases q2 : ce = 0
  rotate_left
  · have q2' : (ce != 0) = true := by simpa using q2
    have hX : x.E = ce := by rw [HE2.out, if_pos q2]
    have HXe := Lib.hid hX
    have HQ2 := Lib.hid q2
    clear q2 hX
    go_wp2_with fail
    go_ret2
    exact HNo.out _ _ HXe.out HQ2.out HB2.out
  have q2' : (ce != 0) = false := by simpa using q2
  have hE3 := HE2.out
  rw [if_neg (by simpa using q2)] at hE3
  have HE3 := Lib.hid hE3
  clear q2 hE3
  go_wp2_with fail
  refine (HLik.out _ HB2.out).mono ?_
  rintro e w3 ⟨rfl, hb⟩
  have HB3 := Lib.hid (up2 HB2.out hb)
  have HA3 := Lib.hid (HA2.out.up hb)
  clear hb
  by_cases q3 : le = 0
  rotate_left
  · have q3' : (le != 0) = true := by simpa using q3
    have hX : x.E = le := by rw [HE3.out, if_pos q3]
    have HXe := Lib.hid hX
    have HQ3 := Lib.hid q3
    clear q3 hX
    go_wp2_with fail
    go_ret2
    exact HNo.out _ _ HXe.out HQ3.out HB3.out
  have q3' : (le != 0) = false := by simpa using q3
  have hE4 := HE3.out
  rw [if_neg (by simpa using q3)] at hE4
  have HE4 := Lib.hid hE4
  have hXl : X.length = x.n := by
    have := congrArg List.length HX.out
    rw [List.length_map] at this
    rw [this, HDd.out]; rfl
  have hn12 : x.n ≤ 12 := (HLen.out HQ1.out).2
  have HXn := Lib.hid hXl
  have HX1 : Hid (X.map DuX.d = findV x.S x.l x.d) := Lib.hid (by rw [HX.out, HDd.out])
  have HAlA := Lib.hid (HAloA.out HQ1.out)
  have HNam : Hid (Am NN) := Lib.hid (by rw [HNn.out]; exact HNA.out (by simpa using q3))
  rw [hXl]
  obtain ⟨n, hn⟩ : ∃ n, n = x.n := ⟨_, rfl⟩
  rw [← hn] at hn12 ⊢
  have HNe := Lib.hid hn
  clear q3 hE4 hXl hn
  go_wp2_with fail
  obtain ⟨W4, hW4⟩ : ∃ W4, W4 = w3.alloc (.cells #[] 2) := ⟨_, rfl⟩
  have hg1 : Has W4 w3.heap.size 2 #[] := by rw [hW4]; exact Has.fresh w3 _ _
  have HO4 := Lib.hid (owl_one (B := w3.heap.size) hg1 (Nat.le_refl _))
  have HB4 : Hid (Below w3.heap.size w3 W4) := by rw [hW4]; exact Lib.hid (boxed _ _)
  rw [← hW4]
  clear hW4 hg1
  obtain ⟨B, hB⟩ : ∃ B, B = w3.heap.size := ⟨_, rfl⟩
  rw [← hB] at HO4 ⊢
  have HBe := Lib.hid hB
  clear hB
  go_loopw [18, 19] (fun al i wr => ∃ j : Nat, j ≤ n ∧ i = .int .i64 (j : Int) ∧ ∃ a1 c1, al = .slice a1 j c1 ∧ OwL wr B [⟨2, 1, .slice a1 j c1, j, valsTo x.alo j⟩] ∧ Below w3.heap.size w3 wr) (fun _ i _ => n - (intOf i).toNat)
  case atStart => exact ⟨0, Nat.zero_le _, rfl, _, _, rfl, HO4.out, HB4.out⟩
  case round =>
    obtain ⟨j, hj, rfl, a1, c1, rfl, hO, hb⟩ := hrel
    have HO := Lib.hid hO
    have HB := Lib.hid hb
    have HD := Lib.hid (HA3.out.up hb)
    clear hO hb
    by_cases hlt : j < n
    · obtain ⟨y, hy⟩ : ∃ y, X[j]? = some y := ⟨X[j]'(by rw [HXn.out, ← HNe.out]; exact hlt), List.getElem?_eq_getElem _⟩
      obtain ⟨db, dof, hda, _, k1, _⟩ := dus_at HD.out.A hy
      subst hda
      have HAl : Hid (y.d.al = x.alo j) := Lib.hid (by unfold Askd.alo; rw [askd_at x HX1.out hy])
      obtain ⟨al, hal⟩ : ∃ al, al = y.d.al := ⟨_, rfl⟩
      rw [← hal] at k1 HAl
      have i0 : (0 : Int) ≤ (j : Int) := by omega
      have i1 : (j : Int) < (n : Int) := by omega
      have e1 : IntKind.i64.wrap ((j : Int) + 1) = (j : Int) + 1 := IntWalk.i64_in _ (by omega)
      obtain ⟨W5, hW5⟩ : ∃ W5, W5 = wr.alloc (.cells #[.int .i64 al] 2) := ⟨_, rfl⟩
      have hb5 : Below wr.heap.size wr W5 := by rw [hW5]; exact boxed _ _
      obtain ⟨a3, c4, w6, hr6, ho6, hb6, hs6⟩ := owl_num (w0 := w3) (HO.out.up hb5) (i := 0) (k := j) rfl (by omega) (y := wr.heap.size) (by rw [hW5]; exact Has.fresh _ _ _) (up2 HB.out hb5) (by rw [HBe.out]; exact Nat.le_refl _) (by rw [HBe.out]; exact (up2 HB.out hb5).size) 64
      have HR6 := Lib.hid hr6
      have HO6 := Lib.hid ho6
      have HB6 := Lib.hid hb6
      have HW5 := Lib.hid hW5
      clear hr6 ho6 hb6 hs6 hb5 hW5 hal hy
      go_wp2_with (first | (rw [← HW5.out]; refine wpList_run (o := ⟨some 74, _, _, _, _, _⟩) rfl (.tmp 67) (.tmp 73) 64 rfl _ _ rfl rfl (S := fun u q => u = .slice a3 (j + 1) c4 ∧ q = w6) ⟨_, w6, HR6.out, rfl, rfl⟩ ?_; rintro u q ⟨rfl, rfl⟩) | fail)
      refine ⟨⟨j + 1, by omega, by go_num, _, _, rfl, ?_, HB6.out⟩, by simp [intOf]; omega⟩
      rw [valsTo_step, ← HAl.out]
      exact HO6.out
    · obtain rfl : j = n := by omega
      have hA1 : Arg wr a1 j x.alo := fun hp => by
        obtain ⟨g, cc, e, _, hI⟩ := vals_ints hp (HO.out.own 0 _ rfl)
        injection e with e
        subst e
        exact ints_arg0 hI hp
      have HAll := Lib.hid (rall_any NN x.alo a1 j c1 wr HAlA.out HNam.out hA1)
      unfold RAllPost RListed at HAll
      have hE4 := HE4.out
      rw [← HNn.out, ← HNe.out] at hE4
      obtain ⟨ae, hae⟩ : ∃ ae, ae = allE NN x.alo j := ⟨_, rfl⟩
      rw [← hae] at HAll hE4
      have HE5 := Lib.hid hE4
      have HBw := Lib.hid (up2 HB3.out HB.out)
      clear hA1 hE4 hae hlt hj
      go_wp2_with fail
      refine HAll.out.mono ?_
      rintro e w5 ⟨hb, ⟨q, rfl⟩ | ⟨q, p, pc, rfl, hp, hI⟩⟩
      · have HB5 := Lib.hid (up2 HBw.out hb)
        have q' : (ae != 0) = true := by simpa using q
        have HQ := Lib.hid q
        clear hb q
        go_wp2_with fail
        go_ret2
        exact HNo.out _ _ HE5.out HQ.out HB5.out
      · have HB5 := Lib.hid (up2 HBw.out hb)
        have HD5 := Lib.hid (HD.out.up hb)
        have HI5 := Lib.hid hI
        have q' : (ae != 0) = false := by simpa using q
        have HE0 : Hid (x.E = 0) := Lib.hid (by rw [HE5.out]; exact q)
        clear hb q hp hI
        go_wp2_with fail
        obtain ⟨W6, hW6⟩ : ∃ W6, W6 = w5.alloc (.cells #[.int .i64 NN, .int .i64 dd, .int .i64 0, .slice none 0 0] 45) := ⟨_, rfl⟩
        have HS6 : Hid (Cnw w5 W6 x w5.heap.size [] (.slice none 0 0) 0) := Lib.hid (by rw [hW6, HNn.out, HDd.out]; exact Cnw.start w5 x)
        rw [← hW6]
        clear hW6
        obtain ⟨c, hc⟩ : ∃ c, c = w5.heap.size := ⟨_, rfl⟩
        rw [← hc] at HS6 ⊢
        clear hc
        go_loopw [23] (fun i wr => ∃ t : Nat, t ≤ j ∧ i = .int .i64 (t : Int) ∧ ∃ P tv, Cnw w5 wr x c P tv t) (fun i _ => j - (intOf i).toNat)
        case atStart => exact ⟨0, Nat.zero_le _, rfl, _, _, HS6.out⟩
        case round =>
          obtain ⟨t, ht, rfl, P, tv, hC⟩ := hrel
          have HC := Lib.hid hC
          have HD6 := Lib.hid (HD5.out.up hC.bel)
          have HI6 := Lib.hid (ints_up HI5.out hC.bel)
          have HBr := Lib.hid (up2 HB5.out hC.bel)
          clear hC
          by_cases hlt2 : t < j
          · obtain ⟨y, hy⟩ : ∃ y, X[t]? = some y := ⟨X[t]'(by rw [HXn.out, ← HNe.out]; exact hlt2), List.getElem?_eq_getElem _⟩
            obtain ⟨db, dof, hda, k0, k1, k2, k3, k4, k5, _⟩ := dus_at HD6.out.A hy
            subst hda
            have kv := (HI6.out t hlt2).1
            have hmem : y.d ∈ findV x.S x.l x.d := by rw [← HX1.out]; exact List.mem_map_of_mem (List.mem_of_getElem? hy)
            obtain ⟨o1, o2, _, _, _⟩ := HOk.out HQ1.out y.d hmem
            have htx : t < x.n := by rw [← HNe.out]; exact hlt2
            have hz := HZero.out HE0.out
            have hov : 0 ≤ outV NN x.alo j t := by rw [HNn.out, HNe.out]; exact out_nn hz.out hz.N0 htx
            have hova : Am (outV NN x.alo j t) := by
              have h2 := sumN_term (f := outV NN x.alo j) (n := j) (fun i hi => by rw [HNn.out, HNe.out]; exact out_nn hz.out hz.N0 (by rw [← HNe.out]; exact hi)) hlt2
              have h3 : sumN (outV NN x.alo j) j = NN := by rw [HNn.out, HNe.out]; exact out_whole hz.out
              have h4 := HNam.out
              unfold Am at h4 ⊢; omega
            have hun : Am y.d.un := by
              have := (dtB_iff.1 o1).2.2.1
              have h1 : y.d.dt.un = y.d.un := rfl
              unfold Am; omega
            have HTk : Hid (x.C.T.getD t trk0 = ⟨y.d.dt, [], [⟨0, 0, 0, outV NN x.alo j t⟩]⟩) := Lib.hid (by rw [askd_tr x htx, askd_at x HX1.out hy, HNn.out, HNe.out])
            have HNewT := Lib.hid (qtrnew_yes (w := wr.drew) (d := y.d.dt) (a := y.a) (c := y.cap) (outV NN x.alo j t) ((nst_ins (HD6.out.T y (List.mem_of_getElem? hy))).up (Below.refl _ _).drew) o1 hov hova hun)
            have hTl : t < x.C.T.length := by rw [askd_len]; exact htx
            have HMore := Lib.hid (fun (w0 w7 : World) (r k : Nat) (h : Cnw w5 w0 x c P tv t) => h.more hTl (by omega) (r := r) (k := k) (w7 := w7))
            rw [HTk.out] at HMore
            obtain ⟨ov, hov2⟩ : ∃ ov, ov = outV NN x.alo j t := ⟨_, rfl⟩
            rw [← hov2] at kv HNewT HMore
            simp only [← dux_val] at HNewT
            obtain ⟨m, hm⟩ : ∃ m, m = y.d.ls.length := ⟨_, rfl⟩
            obtain ⟨yal, hyal⟩ : ∃ z, z = y.d.al := ⟨_, rfl⟩
            obtain ⟨yun, hyun⟩ : ∃ z, z = y.d.un := ⟨_, rfl⟩
            obtain ⟨yme, hyme⟩ : ∃ z, z = y.d.me := ⟨_, rfl⟩
            obtain ⟨yfi, hyfi⟩ : ∃ z, z = y.d.fi := ⟨_, rfl⟩
            obtain ⟨yla, hyla⟩ : ∃ z, z = y.d.la := ⟨_, rfl⟩
            obtain ⟨ya, hya⟩ : ∃ z, z = y.a := ⟨_, rfl⟩
            obtain ⟨yc, hyc⟩ : ∃ z, z = y.cap := ⟨_, rfl⟩
            rw [← hm, ← hya, ← hyc] at k0
            rw [← hyal] at k1
            rw [← hyun] at k2
            rw [← hyme] at k3
            rw [← hyfi] at k4
            rw [← hyla] at k5
            rw [← hm, ← hya, ← hyc, ← hyal, ← hyun, ← hyme, ← hyfi, ← hyla] at HNewT
            have HKU : Hid (∀ W, Below wr.drew.heap.size wr.drew W → W.cell? ⟨db, dof + t * 6, none⟩ = some (.slice ya m yc) ∧ W.cell? ⟨db, dof + t * 6 + 1, none⟩ = some (.int .i64 yal) ∧ W.cell? ⟨db, dof + t * 6 + 2, none⟩ = some (.int .i64 yun) ∧ W.cell? ⟨db, dof + t * 6 + 3, none⟩ = some (.int .i64 yme) ∧ W.cell? ⟨db, dof + t * 6 + 4, none⟩ = some (.int .i64 yfi) ∧ W.cell? ⟨db, dof + t * 6 + 5, none⟩ = some (.int .i64 yla) ∧ W.cell? ⟨p, t, none⟩ = some (.int .i64 ov)) := Lib.hid fun W q => by
              have q' := up2 (Below.refl _ _).drew q
              exact ⟨kcell q' k0, kcell q' k1, kcell q' k2, kcell q' k3, kcell q' k4, kcell q' k5, kcell q' kv⟩
            have HCd := Lib.hid (HC.out.up (Below.refl _ _).drew)
            have i0 : (0 : Int) ≤ (t : Int) := by omega
            have i1 : (t : Int) < (j : Int) := by omega
            have e1 : IntKind.i64.wrap ((t : Int) + 1) = (t : Int) + 1 := IntWalk.i64_in _ (by omega)
            clear hy hmem o1 o2 htx hz hov hova hun hTl hov2 hm hyal hyun hyme hyfi hyla hya hyc
            go_wp2_with fail
            have K0 : Hid (wr.drew.cell? ⟨db, dof + t * 6, none⟩ = some (.slice ya m yc) ∧ wr.drew.cell? ⟨db, dof + t * 6 + 1, none⟩ = some (.int .i64 yal) ∧ wr.drew.cell? ⟨db, dof + t * 6 + 2, none⟩ = some (.int .i64 yun) ∧ wr.drew.cell? ⟨db, dof + t * 6 + 3, none⟩ = some (.int .i64 yme) ∧ wr.drew.cell? ⟨db, dof + t * 6 + 4, none⟩ = some (.int .i64 yfi) ∧ wr.drew.cell? ⟨db, dof + t * 6 + 5, none⟩ = some (.int .i64 yla) ∧ wr.drew.cell? ⟨p, t, none⟩ = some (.int .i64 ov)) := Lib.hid (HKU.out _ (Below.refl _ _))
            go_region_held3 (fun w' => w'.cell? ⟨db, dof + t * 6, none⟩ = some (.slice ya m yc) ∧ w'.cell? ⟨db, dof + t * 6 + 1, none⟩ = some (.int .i64 yal) ∧ w'.cell? ⟨db, dof + t * 6 + 2, none⟩ = some (.int .i64 yun) ∧ w'.cell? ⟨db, dof + t * 6 + 3, none⟩ = some (.int .i64 yme) ∧ w'.cell? ⟨db, dof + t * 6 + 4, none⟩ = some (.int .i64 yfi) ∧ w'.cell? ⟨db, dof + t * 6 + 5, none⟩ = some (.int .i64 yla) ∧ w'.cell? ⟨p, t, none⟩ = some (.int .i64 ov))
              (first | (go_keep; done) | (with_reducible exact K0.out) | (with_reducible exact kK1.out))
              (first | (go_at_call 74; (with_reducible refine (HNewT.out).mono ?_); rintro e w7 ⟨r, k, rfl, hT, hb, hr, hk⟩; have kT := Lib.hid hT; have kB := Lib.hid hb; have kR := Lib.hid (And.intro hr hk); have kK1 := Lib.hid (HKU.out _ hb); clear hT hb hr hk))
            all_goals
              obtain ⟨W8, hW8⟩ : ∃ W8, W8 = w7.alloc (.cells #[.pointer (some ⟨r, 0, none⟩)] 62) := ⟨_, rfl⟩
              have c3 := (HCd.out.up kB.out).has.cell 3
              simp at c3
              obtain ⟨ta, tc, a', c', w9, htv, hrun, hc9, hf9, hM⟩ := HMore.out _ w7 r k HCd.out kB.out kT.out kR.out.1 kR.out.2 hW8
              subst htv
              have HR9 := Lib.hid hrun
              have HW8 := Lib.hid hW8
              have kM := Lib.hid hM
              clear hrun hW8 hM k0 k1 k2 k3 k4 k5 kv
              go_wp2_with (first | (rw [← HW8.out]; refine wpList_run (o := ⟨some 113, _, _, _, _, _⟩) rfl (.tmp 110) (.tmp 112) 43 rfl _ _ rfl rfl (S := fun u q => u = .slice a' (t + 1) c' ∧ q = w9) ⟨_, w9, HR9.out, rfl, rfl⟩ ?_; rintro u q ⟨rfl, rfl⟩) | fail)
              exact ⟨⟨t + 1, by omega, by go_num, _, _, kM.out⟩, by simp [intOf]; omega⟩
          · obtain rfl : t = j := by omega
            clear hlt2
            go_wp2_with fail
            go_ret2
            have hjn : t = x.C.T.length := by rw [askd_len]; exact HNe.out
            refine HYes.out _ c P HE0.out HBr.out ?_ fun g hg => ?_
            · have h := HC.out
              rw [hjn] at h
              exact h.done (HFine.out HE0.out)
            · have h1 := HB5.out.size
              have h2 := HC.out.c0
              rcases hg with rfl | ⟨y, hy, h⟩
              · omega
              · have h3 := HC.out.new y hy
                omega
end Go.Proofs.YtklaonoekmhakaaGreat

namespace Go.Proofs.YtklaonoekmhakaaGreat
open Go.RowKit

theorem infoRMaybe : (Tryz.prog.info? 85).map (fun i => (i.zero, i.size, i.bytes)) = some (some (.agg #[.int .i64 0, .int .i64 0]), 2, 16) := by kernel_rfl
/-- a row of what may come, of a call's own -/
abbrev OwM (W : World) (B : Nat) (v : Value) (z : List Mb) : Prop := W.ownsRow B 85 2 v z.length (z.flatMap Mb.cells)
theorem OwM.up {W W' : World} {B : Nat} {v : Value} {z : List Mb} (h : OwM W B v z) (q : Below W.heap.size W W') : OwM W' B v z := World.ownsRow.kept h (grown_of q none) (by cases v.ownBlock <;> simp)
theorem owm_app {W : World} {B : Nat} {v : Value} {z : List Mb} (h : OwM W B v z) (hz : z.length ≤ 1000) (hB : B ≤ W.heap.size) {y : Nat} {x : Mb} (hy : Has W y 85 #[.int .i64 x.am, .int .i64 x.ch]) (ty : TypeId) :
    ∃ v' w', (Builtin.append_ #[82, 82] ty #[v, .slice (some ⟨y, 0, none⟩) 1 1]).run Tryz.prog W = .ok v' w' ∧ OwM w' B v' (z ++ [x]) ∧ W.grownBy w' v.ownBlock := by
  obtain ⟨i, hi, hz0, hz1, hz2⟩ := info_parts infoRMaybe
  obtain ⟨v', w', hr, ho, hg, _⟩ := run_append_own_at (P := Tryz.prog) W B 82 ty 85 i _ 2 16 Tryz.underlying82 hi hz0 hz1 hz2 rfl (by decide) v z.length _ h ⟨y, 0, none⟩ 1 1 x.cells rfl
    (fun j u hu => by
      rw [addr_off, Nat.zero_add, hy.cell]
      exact (List.getElem?_toArray (xs := x.cells) (i := j)).trans hu)
    (fun u hu => by
      simp [Mb.cells] at hu
      rcases hu with rfl | rfl <;> rfl) (by unfold maxLen; omega) (by omega) hB
  refine ⟨v', w', hr, ?_, hg⟩
  show w'.ownsRow B 85 2 v' (z ++ [x]).length ((z ++ [x]).flatMap Mb.cells)
  rw [List.length_append, List.flatMap_append, List.flatMap_singleton]; exact ho
theorem OwM.rows {W : World} {B : Nat} {v : Value} {z : List Mb} {n : Nat} (h : OwM W B v z) (hn : z.length = n) : ∃ a c, v = .slice a n c ∧ MbA W a z := by
  obtain ⟨a, c, rfl⟩ := own_formb h
  exact ⟨a, c, by rw [hn], (own_rws mb_len h rfl).1⟩
end Go.Proofs.YtklaonoekmhakaaGreat

namespace Go.Proofs.YtklaonoekmhakaaGreat
open Go.RowKit

theorem QCnR.back {w w3 w' : World} {x : Askd} {e : Ending} (h : QCnR w3 x e w') (hb : Below w.heap.size w w3) : QCnR w x e w' := by
  obtain ⟨h1, h2⟩ := h
  refine ⟨up2 hb h1, ?_⟩
  rcases h2 with h2 | ⟨h0, c, P, he, hc, hg⟩
  · exact .inl h2
  · exact .inr ⟨h0, c, P, he, hc, fun g hh => Nat.le_trans hb.size (hg g hh)⟩
/-- what is asked of a new book -/
def askI (I : List Im) (l : List Ln) (m : List Mb) (b d : Int) : Askd := ⟨⟨I, []⟩, l, m, b, d⟩
def QOwnR (w : World) (I : List Im) (x : Askd) (e : Ending) (w' : World) : Prop :=
  (bnewE I ≠ 0 ∧ e = .returned (.tuple #[.pointer none, .int .i64 (bnewE I)]) ∧ Below w.heap.size w w') ∨ (bnewE I = 0 ∧ QCnR w x e w')
theorem fine_of {I : List Im} (h : bnewE I = 0) (hp : ∀ x ∈ I, Am x.pri) : FineB ⟨I, []⟩ := by
  unfold bnewE at h
  split at h
  · cases h
  · rename_i q
    split at h
    · rename_i q2
      exact fine_new (by omega) (fun x hx => List.all_eq_true.1 q2 x hx) hp
    · cases h
set_option maxRecDepth 100000 in
set_option maxHeartbeats 16000000 in
theorem own16_any {w : World} (I : List Im) (l : List Ln) (m : List Mb) (b d : Int) (ia la ma : Option Addr) (ic lc mc : Nat) (hI : ItA w ia I) (hic : ia = none → ic = 0) (hp : ∀ x ∈ I, Am x.pri) (hl : LnA w la l) (hln : l.length ≤ 1000) (hAm : ∀ y ∈ l, Am y.un ∧ Am y.ch) (hm : MbA w ma m) (hml : m.length ≤ 1000) (hmg : ∀ y ∈ m, mbG y) :
    Calls Tryz.prog 11 #[.agg #[.slice ia I.length ic, .slice la l.length lc, .slice ma m.length mc, .int .i64 b, .int .i64 d]] w (QOwnR w I (askI I l m b d)) := by
  have HNew := Lib.hid (fun (W : World) (q : Below w.heap.size w W) => qnew_any ia I.length ic I W rfl (hI.up q) hic)
  have HCn := Lib.hid (fun (W : World) (bp : Nat) (ma' : Option Addr) (mc' : Nat) (q : Below w.heap.size w W) (h0 : bnewE I = 0) (hb : Rb W bp ⟨I, []⟩) (hm' : MbA W ma' m) => qcnew_any (askI I l m b d) la ma' lc mc' hb (fine_of h0 hp) (by simp [askI]) (hl.up q) hln hAm hm' hmg)
  unfold QNewR at HNew
  unfold askI at HCn
  simp only at HCn
  have HL := Lib.hid hm
  obtain ⟨n, hn⟩ : ∃ n, n = m.length := ⟨_, rfl⟩
  obtain ⟨ni, hni⟩ : ∃ n, n = I.length := ⟨_, rfl⟩
  obtain ⟨nl, hnl⟩ : ∃ n, n = l.length := ⟨_, rfl⟩
  rw [← hn] at HCn hml ⊢
  rw [← hni] at HNew ⊢
  rw [← hnl] at HCn ⊢
  have HN := Lib.hid hn
  obtain ⟨be, hbe⟩ : ∃ be, be = bnewE I := ⟨_, rfl⟩
  rw [← hbe] at HNew HCn
  have HBe := Lib.hid hbe
  clear hI hic hp hl hln hAm hm hmg hn hni hnl hbe
  go_enter Tryz.func11, Tryz.ntmps11
  go_wp2_with fail
  obtain ⟨W0, hW0⟩ : ∃ W0, W0 = w.alloc (.cells #[.slice ia ni ic, .slice la nl lc, .slice ma n mc, .int .i64 b, .int .i64 d] 26) := ⟨_, rfl⟩
  have HX0 : Hid (Has W0 w.heap.size 26 #[.slice ia ni ic, .slice la nl lc, .slice ma n mc, .int .i64 b, .int .i64 d]) := Lib.hid (by rw [hW0]; exact Has.fresh _ _ _)
  have HB0 : Hid (Below w.heap.size w W0) := Lib.hid (by rw [hW0]; exact boxed _ _)
  obtain ⟨xp, hxp⟩ : ∃ xp, xp = w.heap.size := ⟨_, rfl⟩
  rw [← hW0, ← hxp]
  rw [← hxp] at HX0
  clear hW0 hxp
  refine (HNew.out _ HB0.out).mono ?_
  rintro e w1 (⟨q, rfl, hb⟩ | ⟨q, bp, rfl, hR, hb, _⟩)
  · have HB := Lib.hid (up2 HB0.out hb)
    have HQ0 := Lib.hid q
    clear q hb
    go_wp2_with fail
    go_ret2
    unfold QOwnR
    rw [← HBe.out]
    exact .inl ⟨HQ0.out, rfl, HB.out⟩
  · have HB1 := Lib.hid (up2 HB0.out hb)
    have HX1 := Lib.hid (HX0.out.up hb)
    have HR := Lib.hid hR
    have k2 := HX1.out.cell 2
    simp at k2
    have HQ0 := Lib.hid q
    clear q hb hR
    go_wp2_with fail
    clear k2
    go_loopw [6, 21] (fun v i wr => ∃ k : Nat, k ≤ n ∧ i = .int .i64 (k : Int) ∧ OwM wr w1.heap.size v (m.take k) ∧ Below w1.heap.size w1 wr) (fun _ i _ => n - (intOf i).toNat)
    case atStart => exact ⟨0, Nat.zero_le _, rfl, by rw [List.take_zero]; exact World.ownsRow_nil _ _ _ _, Below.refl _ _⟩
    case round =>
      obtain ⟨k, hk, rfl, hO, hb⟩ := hrel
      have HO := Lib.hid hO
      have HB := Lib.hid hb
      clear hO hb
      by_cases hlt : k < n
      · obtain ⟨x, hx⟩ : ∃ x, m[k]? = some x := ⟨m[k]'(by rw [← HN.out]; exact hlt), List.getElem?_eq_getElem _⟩
        obtain ⟨bb, o, hab, c0, c1⟩ := mb_at (HL.out.up (up2 HB1.out HB.out)) hx
        subst hab
        have htk : m.take (k + 1) = m.take k ++ [x] := by rw [List.take_add_one, hx]; rfl
        obtain ⟨A, hA⟩ : ∃ A, A = x.am := ⟨_, rfl⟩
        obtain ⟨C, hC⟩ : ∃ C, C = x.ch := ⟨_, rfl⟩
        obtain ⟨W1, hW1⟩ : ∃ W1, W1 = (wr.alloc (.cells #[.int .i64 A, .int .i64 C] 84)).alloc (.cells #[.int .i64 A, .int .i64 C] 85) := ⟨_, rfl⟩
        have hb1 : Below wr.heap.size wr W1 := by rw [hW1]; exact up2 (boxed _ _) (boxed _ _)
        obtain ⟨v', w5, hr, ho5, hg5⟩ := owm_app (HO.out.up hb1) (by rw [List.length_take]; omega) (Nat.le_trans HB.out.size hb1.size) (y := wr.heap.size + 1) (x := x)
          (by rw [hW1, hA, hC, show wr.heap.size + 1 = (wr.alloc (.cells #[.int .i64 x.am, .int .i64 x.ch] 84)).heap.size by simp]; exact Has.fresh _ _ _) 82
        rw [← htk] at ho5
        have HR5 := Lib.hid hr
        have HO5 := Lib.hid ho5
        have HB5 : Hid (Below w1.heap.size w1 w5) :=
          (up2 HB.out hb1).grown hg5 (Nat.le_trans HB.out.size hb1.size) (fun j hj => (World.ownsRow.lt (HO.out.up hb1) j hj).1)
        have HW1 := Lib.hid hW1
        rw [← hA] at c0
        rw [← hC] at c1
        clear hx htk hA hC hW1 hb1 hr ho5 hg5
        go_wp2_with (first | (rw [← HW1.out]; refine wpList_run (o := ⟨some 28, _, _, _, _, _⟩) rfl (.tmp 25) (.tmp 27) 82 rfl _ _ rfl rfl (S := fun u q => u = v' ∧ q = w5) ⟨v', w5, HR5.out, rfl, rfl⟩ ?_; rintro u q ⟨rfl, rfl⟩) | fail)
        go_roundw
        case rel => exact ⟨k + 1, by omega, by go_num, HO5.out, HB5.out⟩
        case measure => simp [intOf]; omega
      · obtain rfl : k = n := by omega
        obtain ⟨a', c', e', hM⟩ := HO.out.rows (n := k) (by rw [List.length_take, ← HN.out]; omega)
        have htake : m.take k = m := by rw [HN.out]; exact List.take_length
        rw [htake] at hM
        have HB2 := Lib.hid (up2 HB1.out HB.out)
        have HC := Lib.hid (HCn.out wr bp a' c' HB2.out HQ0.out (HR.out.up HB.out) hM)
        have hX := HX1.out.up HB.out
        have k1 := hX.cell 1
        have k3 := hX.cell 3
        have k4 := hX.cell 4
        simp at k1 k3 k4
        subst e'
        clear htake hM hX
        go_wp2_with fail
        refine HC.out.mono ?_
        rintro e w5 hq
        have HQ5 : Hid (QOwnR w I (askI I l m b d) e w5) := Lib.hid (.inr ⟨by rw [← HBe.out]; exact HQ0.out, hq.back HB2.out⟩)
        obtain ⟨V, rfl, HVq⟩ : ∃ V, e = .returned V ∧ ((∃ p X, V = .tuple #[.pointer p, .int .i64 X])) := by
          rcases hq.2 with ⟨_, rfl⟩ | ⟨_, c, P, rfl, _⟩
          · exact ⟨_, rfl, _, _, rfl⟩
          · exact ⟨_, rfl, _, _, rfl⟩
        obtain ⟨p, X, rfl⟩ := HVq
        clear hq
        go_wp2_with fail
        go_ret2
        exact HQ5.out
end Go.Proofs.YtklaonoekmhakaaGreat

namespace Go.Proofs.YtklaonoekmhakaaGreat
open Go.RowKit

/-- the program's contract and the reference's -/
structure Dc (Pc : World → (Nat → Prop) → Nat → Ct → Prop) (w0 w : World) (c r : Nat) (P : List (Nat × Nat)) (S S2 : Ct) : Prop where
  t : ∃ O : Nat → Prop, Pc w O c S ∧ (∀ g, O g → w0.heap.size ≤ g) ∧ ∀ g, Cqs r P g → ¬ O g
  q : Cq w r P S2
  qq : ∀ g, Cqs r P g → w0.heap.size ≤ g
  bel : Below w0.heap.size w0 w
section
variable {Pc : World → (Nat → Prop) → Nat → Ct → Prop} {w0 w1 w w' : World} {O : Nat → Prop} {c r : Nat} {P : List (Nat × Nat)} {S S' S2 : Ct} {X : Int} {e : Ending}
theorem Cq.lt (h : Cq w r P S2) {g : Nat} (hg : Cqs r P g) : ∃ T cs, Has w g T cs ∧ T ≠ 3 := by
  obtain ⟨tv, h⟩ := h
  rcases hg with rfl | ⟨x, hx, hg⟩
  · exact ⟨_, _, h.has, by decide⟩
  · obtain ⟨⟨_, h1⟩, ⟨_, h2⟩⟩ := h.trs.lt hx
    rcases hg with rfl | rfl
    · exact ⟨_, _, h1, by decide⟩
    · exact ⟨_, _, h2, by decide⟩
theorem Cq.sto (h : Cq w r P S2) (k : Sto w w') : Cq w' r P S2 := by
  obtain ⟨tv, h⟩ := h
  refine ⟨tv, k r _ _ h.has (.inr (.inl rfl)), ?_, h.trs.keepT fun g T cs hh hT => k g T cs hh (by rcases hT with z | z | z | z | z <;> simp [z]), h.fine⟩
  refine ⟨h.own.1, ?_⟩
  rcases h.own.2 with q | ⟨g, cap, cur, e, q3, q4, q5⟩
  · exact .inl q
  · exact .inr ⟨g, cap, cur, e, q3, k g _ cur q4 (.inr (.inr (.inl rfl))), q5⟩
theorem Dc.of (K : PcK Pc) (h1 : CfOf Pc w0 w1 c S) (h2 : Cq w r P S2) (hb : Below w1.heap.size w1 w) (hg : ∀ g, Cqs r P g → w1.heap.size ≤ g) : Dc Pc w0 w c r P S S2 := by
  obtain ⟨O, h, hO, hb1⟩ := h1
  exact ⟨⟨O, K.up h hb, hO, fun g q z => by have := hg g q; have := K.lt h g z; omega⟩, h2, fun g q => Nat.le_trans hb1.size (hg g q), up2 hb1 hb⟩
theorem Dc.up (K : PcK Pc) (h : Dc Pc w0 w c r P S S2) (q : Below w.heap.size w w') : Dc Pc w0 w' c r P S S2 := by
  obtain ⟨⟨O, h1, h2, h3⟩, hq, hg, hb⟩ := h
  exact ⟨⟨O, K.up h1 q, h2, h3⟩, hq.up q, hg, up2 hb q⟩
theorem Dc.left (h : Dc Pc w0 w c r P S S2) : ∃ O, Pc w O c S ∧ ∀ e w' S' X, PcR Pc w O c S' X e w' → e = .returned (.int .i64 X) ∧ Dc Pc w0 w' c r P S' S2 := by
  obtain ⟨⟨O, h1, h2, h3⟩, hq, hg, hb⟩ := h
  refine ⟨O, h1, fun e w' S' X z => ⟨z.1, ⟨Nw O w w', z.2.1, fun g y => y.elim (h2 g) fun y => Nat.le_trans hb.size y.1, fun g y u => ?_⟩, hq.sto z.2.2.2, hg, hb.trans (z.2.2.1.below hb.size h2)⟩⟩
  rcases u with u | u
  · exact h3 g y u
  · obtain ⟨T, cs, hh, _⟩ := hq.lt y
    have := hh.lt
    omega
theorem Dc.right (K : PcK Pc) (h : Dc Pc w0 w c r P S S2) (z : CqR w r P S' w') : Dc Pc w0 w' c r P S S' := by
  obtain ⟨⟨O, h1, h2, h3⟩, hq, hg, hb⟩ := h
  exact ⟨⟨O, K.keep h1 z.2 (fun g cs hh => z.2.has hh fun y => by
    obtain ⟨T, cs', hh', hT⟩ := hq.lt y
    exact hh.ne hh' (fun e => hT e.symm) rfl) fun g y u => h3 g u y, h2, h3⟩, z.1, hg, hb.trans (z.2.below hb.size hg)⟩
theorem Dc.fine (K : PcK Pc) (h : Dc Pc w0 w c r P S S2) : FineC S := by obtain ⟨⟨O, h1, _⟩, _⟩ := h; exact K.fine h1
theorem cfk_dc (K : PcK Pc) : CfK (fun w0 w c S => Dc Pc w0 w c r P S S2) where
  up := fun h q => Dc.up K h q
  bel := fun h => h.bel
  fine := fun h => Dc.fine K h
  tell := fun du dy n h hn => by
    obtain ⟨O, h1, h2⟩ := Dc.left h
    exact (K.tell du dy n h1 hn).mono fun e w' z => h2 e w' _ _ z
  onward := fun dy n h hn => by
    obtain ⟨O, h1, h2⟩ := Dc.left h
    exact (K.onward dy n h1 hn).mono fun e w' z => h2 e w' _ _ z
  afresh := fun dy n h hn => by
    obtain ⟨O, h1, h2⟩ := Dc.left h
    exact (K.afresh dy n h1 hn).mono fun e w' z => h2 e w' _ _ z
  price := fun ⟨⟨_, h, _⟩, _, _, _⟩ => K.price h
  day := fun ⟨⟨_, h, _⟩, _, _, _⟩ => K.day h
  many := fun ⟨⟨_, h, _⟩, _, _, _⟩ => K.many h
  allot := fun k ⟨⟨_, h, _⟩, _, _, _⟩ => K.allot k h
  earned := fun k d ⟨⟨_, h, _⟩, _, _, _⟩ => K.earned k d h
  all := fun d ⟨⟨_, h, _⟩, _, _, _⟩ => K.all d h
  duty := fun k ⟨⟨_, h, _⟩, _, _, _⟩ => K.duty k h
end
end Go.Proofs.YtklaonoekmhakaaGreat

namespace Go.Proofs.YtklaonoekmhakaaGreat
open Go.RowKit

set_option maxRecDepth 100000 in
set_option maxHeartbeats 4000000 in
theorem one_copy (d : Dt) (a a' : Option Addr) (c c' : Nat) (w : World) (hx : InA w a d.ls) (hy : InA w a' d.ls) (hn : d.ls.length ≤ 1000) :
    Calls Tryz.prog 26 #[d.val a c, d.val a' c', .bool true] w fun e w' => e = .returned (.bool true) ∧ Below w.heap.size w w' := by
  obtain ⟨xls, xal, xun, xme, xfi, xla⟩ := d
  unfold Dt.val
  simp only at hx hy hn ⊢
  obtain ⟨n, hxn⟩ : ∃ n, n = xls.length := ⟨_, rfl⟩
  rw [← hxn] at hn ⊢
  have HX := Lib.hid hx
  have HY := Lib.hid hy
  have HXn := Lib.hid hxn
  clear hx hy hxn
  go_enter Tryz.func26, Tryz.ntmps26
  go_wp2_with fail
  obtain ⟨W0, hW0⟩ : ∃ W0, W0 = (w.alloc (.cells #[.slice a n c, .int .i64 xal, .int .i64 xun, .int .i64 xme, .int .i64 xfi, .int .i64 xla] 51)).alloc (.cells #[.slice a' n c', .int .i64 xal, .int .i64 xun, .int .i64 xme, .int .i64 xfi, .int .i64 xla] 51) := ⟨_, rfl⟩
  have HB0 : Hid (Below w.heap.size w W0) := by rw [hW0]; exact up2 (boxed _ _) (boxed _ _)
  have hs : (w.alloc (.cells #[.slice a n c, .int .i64 xal, .int .i64 xun, .int .i64 xme, .int .i64 xfi, .int .i64 xla] 51)).heap.size = w.heap.size + 1 := by simp
  have HA0 : Hid (W0.cell? ⟨w.heap.size, 0, none⟩ = some (.slice a n c)) := Lib.hid (by rw [hW0]; simp [go_sem])
  have HC0 : Hid (W0.cell? ⟨w.heap.size + 1, 0, none⟩ = some (.slice a' n c')) := Lib.hid (by rw [hW0]; simp [go_sem])
  rw [← hW0]
  clear hW0 hs
  go_loopw [7] (fun v7 wr => ∃ i : Nat, i ≤ n ∧ v7 = .int .i64 (i : Int) ∧ Below W0.heap.size W0 wr) (fun v7 _ => n - (intOf v7).toNat)
  case atStart => exact ⟨0, Nat.zero_le _, rfl, Below.refl _ _⟩
  case round =>
    obtain ⟨i, hi, rfl, hb⟩ := hrel
    have HB := Lib.hid hb
    have a0 := kcell hb HA0.out
    have b0 := kcell hb HC0.out
    clear hb
    by_cases hlt : i < n
    · obtain ⟨j, hj⟩ : ∃ j, xls[i]? = some j := ⟨xls[i]'(by rw [← HXn.out]; exact hlt), List.getElem?_eq_getElem _⟩
      obtain ⟨b, o, ha, c0⟩ := in_at (HX.out.up (up2 HB0.out HB.out)) hj
      obtain ⟨b2, o2, ha2, c1⟩ := in_at (HY.out.up (up2 HB0.out HB.out)) hj
      subst ha; subst ha2
      have e1 : IntKind.i64.wrap ((i : Int) + 1) = (i : Int) + 1 := IntWalk.i64_in _ (by omega)
      have hi0 : (0 : Int) ≤ (i : Int) := by omega
      clear hj
      go_wp2_with fail
      go_quiet (fail)
      go_wp2_with fail
      exact ⟨⟨i + 1, by omega, by go_num, blw HB.out _⟩, by simp [intOf]; omega⟩
    · obtain rfl : i = n := by omega
      go_wp2_with fail
      go_ret
      exact ⟨rfl, up2 HB0.out HB.out⟩
end Go.Proofs.YtklaonoekmhakaaGreat
