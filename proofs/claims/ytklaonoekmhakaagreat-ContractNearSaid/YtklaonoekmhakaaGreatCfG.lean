/- The program's contract: New; all that is asked of it. -/
import Derived.Test.YtklaonoekmhakaaGreatCoB
import Derived.Test.YtklaonoekmhakaaGreatOv
import Derived.Test.YtklaonoekmhakaaGreatCoD
import Derived.Test.YtklaonoekmhakaaGreatDuI
import Derived.Test.YtklaonoekmhakaaGreatCfS
namespace Go.Proofs.YtklaonoekmhakaaGreat
open Go.RowKit

section
variable {w w4 w5 w' : World} {x : Askd} {c : Nat} {ab tb n : Nat} {P : Nat → Nat} {Q : Nat → Nat → Prop}
theorem CNewR.no {X : Int} (h : x.E = X) (h0 : X ≠ 0) (hb : Below w.heap.size w w') : CNewR (CfOf Pgc) w x (.returned (.tuple #[.pointer none, .int .i64 X])) w' := .inl ⟨by rw [h]; exact h0, by rw [h], hb⟩
/-- a contract that is made -/
theorem Gnw.done (h : Gnw w5 w' tb x.n (fun t => (x.C.tr t).d) (outV x.N x.alo x.n) x.n P Q) (F : FineC x.C) (hls : ∀ y ∈ x.C.T, y.d.ls.length ≤ 1000) (hb5 : Below w.heap.size w w5) (hab : Ints w5 ab x.n x.alo) (h0 : 0 < x.n) (hab0 : w.heap.size ≤ ab) :
    CfOf Pgc w (w'.alloc (.cells #[.slice (some ⟨ab, 0, none⟩) x.n x.n, .slice (some ⟨tb, 0, none⟩) x.n x.n, .int .i64 x.N, .int .i64 x.d, .int .i64 0] 94)) w'.heap.size x.C := by
  have hn : x.C.n = x.n := askd_n x
  have hbx := boxed w' (.cells #[.slice (some ⟨ab, 0, none⟩) x.n x.n, .slice (some ⟨tb, 0, none⟩) x.n x.n, .int .i64 x.N, .int .i64 x.d, .int .i64 0] 94)
  have hbel := up2 hb5 h.bel
  have hfr := Has.fresh w' 94 #[.slice (some ⟨ab, 0, none⟩) x.n x.n, .slice (some ⟨tb, 0, none⟩) x.n x.n, .int .i64 x.N, .int .i64 x.d, .int .i64 0]
  have h' := h.up hbx
  obtain ⟨cs, k1, k2, k3⟩ := h'.ptr
  obtain ⟨cs0, k10, _, _⟩ := h.ptr
  have htb := k10.lt
  have habl : ab < w5.heap.size := World.block_lt_of_cell? (a := ⟨ab, 0, none⟩) _ (hab 0 h0).1
  have hs5 := h.bel.size
  have hs := hb5.size
  have hsx := hbx.size
  have hql : ∀ t, t < x.n → ∀ g, Q t g → g < w'.heap.size := fun t ht g hg => (h.trk t ht).lt g hg
  have hcl := hfr.lt
  have hal : ∀ t, t < x.n → x.C.alo t = x.alo t := fun t ht => by
    unfold Ct.alo Ct.tr
    rw [askd_tr x ht]; rfl
  have hin := ints_up hab (up2 h.bel hbx)
  refine ⟨Fr w _, ⟨P, Q, ab, tb, x.n, x.n, ?_, ⟨rfl, fun t ht => ?_, fun t ht => ?_, fun t ht => ?_, fun t u ht hu => h.apart t u (by rw [← hn]; exact ht) (by rw [← hn]; exact hu), fun t ht g hg => ?_, ⟨by omega, hcl⟩, ⟨hab0, by omega⟩, ⟨by have := h.tb0; omega, by omega⟩, fun t ht hg => ?_, fun t ht hg => ?_, fun t ht hg => ?_, by omega, by omega, fun g hg => hg.2⟩, F, hls⟩, fun g hg => hg.1, up2 hbel hbx⟩
  · rw [hn]
    exact hfr
  · rw [hn] at ht
    rw [hal t ht]
    exact hin t ht
  · rw [hn] at ht
    rw [k1.cell]; exact k3 t ht
  · rw [hn] at ht
    have hz := h'.trk t ht
    have e : x.C.T.getD t trk0 = ⟨(x.C.tr t).d, [], [⟨0, 0, 0, outV x.N x.alo x.n t⟩]⟩ := by
      have := askd_tr x ht
      unfold Ct.tr
      rw [this]
    rw [e]
    exact hz
  · rw [hn] at ht
    have := (h.new t ht g hg).1
    have := hql t ht g hg
    exact ⟨by omega, by omega⟩
  · rw [hn] at ht
    have := hql t ht _ hg; omega
  · rw [hn] at ht
    have := (h.new t ht _ hg).1; omega
  · rw [hn] at ht
    exact (h.new t ht _ hg).2 rfl
end
set_option maxRecDepth 100000 in
set_option maxHeartbeats 16000000 in
theorem cxnew_any : CfN (CfOf Pgc) := by
  intro w bp r x la ma lc mc h hL hl hln hlg hm hmn hmg
  have F : FineB x.S := by
    obtain ⟨_, _, _, h⟩ := h
    exact h.fine
  have HFind := Lib.hid (fun (W : World) (q : Below w.heap.size w W) => find_any la lc x.l x.d (h.up q) (hl.up q) fun y hy => (hlg y hy).2.1)
  have HChg := Lib.hid (fun (W : World) (q : Below w.heap.size w W) => charge_any la lc x.l W (hl.up q) (by omega) fun y hy => (hlg y hy).2.2.1)
  have HLik := Lib.hid (fun (W : World) (q : Below w.heap.size w W) => likely_any x.fix x.b ma x.m.length mc x.m W rfl (hm.up q) (by unfold Askd.fix; exact tellV_am _) hmg)
  have HE : Hid (x.E = if x.d < 1 ∨ 1000000 < x.d then 1 else if findE x.S x.l x.d ≠ 0 then findE x.S x.l x.d else if tellE (sumTo (chF x.l) x.l.length) ≠ 0 then tellE (sumTo (chF x.l) x.l.length)
    else if likE x.fix x.m x.b ≠ 0 then likE x.fix x.m x.b else allE x.N x.alo x.n) := Lib.hid rfl
  have HFx : Hid (x.fix = tellV (sumTo (chF x.l) x.l.length)) := Lib.hid rfl
  have HNx : Hid (x.N = likV x.fix x.m x.b) := Lib.hid rfl
  have HNo := Lib.hid (fun (w' : World) (X : Int) => @CNewR.no w w' x X)
  have HLen := Lib.hid (fun (q : findE x.S x.l x.d = 0) => find_len (S := x.S) (l := x.l) (d := x.d) q)
  have HAloA := Lib.hid (fun (q : findE x.S x.l x.d = 0) => askd_alo_am x F q)
  have HNA := Lib.hid (fun (q : likE x.fix x.m x.b = 0) => askd_N_am x q)
  have HAlones : Hid (∀ (W : World) (a : Option Addr) (cap : Nat) (X : List DuX), findE x.S x.l x.d = 0 → X.map DuX.d = findV x.S x.l x.d → X.length = x.n → DusA W a X → Calls Tryz.prog 69 #[.slice a x.n cap] W (NewI W x.n x.alo)) := Lib.hid fun W a cap X q hX hXl hA => by
    have h12 := (find_len (S := x.S) (l := x.l) (d := x.d) q).2
    refine cxalones_any x.n cap x.alo hXl (by show (findV x.S x.l x.d).length ≤ 64; omega) hA fun t y hy => ?_
    unfold Askd.alo
    rw [askd_at x hX hy]
  have HTracks : Hid (∀ (W : World) (a : Option Addr) (cap p : Nat) (X : List DuX), x.E = 0 → X.map DuX.d = findV x.S x.l x.d → X.length = x.n → DusA W a X → Ints W p x.n (outV x.N x.alo x.n) → Calls Tryz.prog 70 #[.slice a x.n cap, .slice (some ⟨p, 0, none⟩) x.n x.n] W (TracksR W x.n (fun t => (x.C.tr t).d) (outV x.N x.alo x.n))) := Lib.hid fun W a cap p X q hX hXl hA hI => by
    have hz := Askd.zero q
    have h12 := (find_len (S := x.S) (l := x.l) (d := x.d) hz.fnd).2
    refine cxtracks_any x.n cap p _ _ hXl (by show (findV x.S x.l x.d).length ≤ 64; omega) hA (fun t y hy => ?_) hI fun t ht => ?_
    · have htn : t < x.n := by rw [← hXl]; exact (List.getElem?_eq_some_iff.1 hy).1
      have hmem : y.d ∈ findV x.S x.l x.d := by rw [← hX]; exact List.mem_map_of_mem (List.mem_of_getElem? hy)
      obtain ⟨o1, o2, _, _, o5⟩ := find_ok F hz.fnd y.d hmem
      refine ⟨?_, o1, ns_some (hA.2 y (List.mem_of_getElem? hy)) (find_ls hmem), by omega, ?_⟩
      · show (x.C.T.getD t trk0).d = _
        rw [askd_tr x htn, askd_at x hX hy]
      · have := (dtB_iff.1 o1).2.2.1
        have h1 : y.d.dt.un = y.d.un := rfl
        unfold Am; omega
    · have hov := out_nn hz.out hz.N0 ht
      refine ⟨hov, ?_⟩
      have h2 := sumN_term (f := outV x.N x.alo x.n) (n := x.n) (fun i hi => out_nn hz.out hz.N0 hi) ht
      have h3 : sumN (outV x.N x.alo x.n) x.n = x.N := out_whole hz.out
      have h4 := hz.N1
      unfold Am; omega
  have HDone : Hid (∀ (w5 w' : World) (ab tb : Nat) (P : Nat → Nat) (Q : Nat → Nat → Prop), x.E = 0 → Below w.heap.size w w5 → w.heap.size ≤ ab → Ints w5 ab x.n x.alo → Gnw w5 w' tb x.n (fun t => (x.C.tr t).d) (outV x.N x.alo x.n) x.n P Q →
    CfOf Pgc w (w'.alloc (.cells #[.slice (some ⟨ab, 0, none⟩) x.n x.n, .slice (some ⟨tb, 0, none⟩) x.n x.n, .int .i64 x.N, .int .i64 x.d, .int .i64 0] 94)) w'.heap.size x.C) := Lib.hid fun w5 w' ab tb P Q q hb hab0 hab hg => by
    have hz := Askd.zero q
    refine hg.done (Askd.fine F q) (fun y hy => ?_) hb hab (find_len hz.fnd).1 hab0
    obtain ⟨t, ht⟩ := List.getElem?_of_mem hy
    have hl := (List.getElem?_eq_some_iff.1 ht).1
    rw [askd_len] at hl
    have e := askd_tr x hl
    rw [List.getD_eq_getElem?_getD, ht] at e
    have e : y = _ := e
    rw [e]
    show ((((findV x.S x.l x.d).getD t du0).ls).map _).length ≤ 1000
    rw [List.length_map]
    have hl2 : t < (findV x.S x.l x.d).length := hl
    rw [List.getD_eq_getElem?_getD, List.getElem?_eq_getElem hl2]
    have := (find_ok F hz.fnd _ (List.getElem_mem hl2)).2.2.2.2
    show (_ : Nat) ≤ 1000
    exact Nat.le_trans this (by omega)
  unfold FindR at HFind
  unfold ChR at HChg
  unfold CopR at HLik
  unfold NewI at HAlones
  unfold TracksR at HTracks
  have HX0 : Hid (x.E = 0 → CfOf Pgc w w w.heap.size x.C → CfOf Pgc w w w.heap.size x.C) := Lib.hid fun _ z => z
  obtain ⟨dd, hdd⟩ : ∃ dd, dd = x.d := ⟨_, rfl⟩
  obtain ⟨bb, hbb⟩ : ∃ bb, bb = x.b := ⟨_, rfl⟩
  obtain ⟨ln, hlnn⟩ : ∃ ln, ln = x.l.length := ⟨_, rfl⟩
  obtain ⟨mn, hmn2⟩ : ∃ mn, mn = x.m.length := ⟨_, rfl⟩
  obtain ⟨fe, hfe⟩ : ∃ fe, fe = findE x.S x.l x.d := ⟨_, rfl⟩
  rw [← hfe] at HFind HE HLen HAloA HAlones
  rw [← hdd] at HFind HE HDone ⊢
  obtain ⟨ce, hce⟩ : ∃ ce, ce = tellE (sumTo (chF x.l) x.l.length) := ⟨_, rfl⟩
  obtain ⟨le, hle⟩ : ∃ le, le = likE x.fix x.m x.b := ⟨_, rfl⟩
  rw [← hce] at HChg HE
  rw [← HFx.out] at HChg
  rw [← hle] at HLik HE HNA
  rw [← HNx.out] at HLik
  rw [← hbb] at HLik ⊢
  rw [← hlnn] at HFind HChg ⊢
  rw [← hmn2] at HLik ⊢
  have HDd := Lib.hid hdd
  obtain ⟨fx, hfx⟩ : ∃ fx, fx = x.fix := ⟨_, rfl⟩
  rw [← hfx] at HChg HLik
  obtain ⟨NN, hNN⟩ : ∃ NN, NN = x.N := ⟨_, rfl⟩
  rw [← hNN] at HLik HE HTracks HDone HNA
  obtain ⟨ov, hov⟩ : ∃ ov, ov = outV NN x.alo x.n := ⟨_, rfl⟩
  rw [← hov] at HTracks HDone
  have HOv := Lib.hid hov
  clear h hL F hl hln hlg hm hmn hmg hdd hbb hlnn hmn2 hfe hce hle hfx hNN hov HX0 HFx HNx
  go_enter Tryz.func33, Tryz.ntmps33
  have HDay := Lib.hid (cxday_any dd w)
  by_cases q0 : dd < 1 ∨ 1000000 < dd
  · have hX : x.E = 1 := by rw [HE.out, if_pos q0]
    have HX := Lib.hid hX
    have e : dayB dd = false := by unfold dayB; simp; omega
    rw [e] at HDay
    clear hX q0 e
    go_wp2_with fail
    refine HDay.out.mono ?_
    rintro e w1 ⟨rfl, rfl⟩
    go_wp2_with fail
    go_ret2
    exact HNo.out _ _ HX.out (by decide) (Below.refl _ _)
  have hE1 := HE.out
  rw [if_neg q0] at hE1
  have HE1 := Lib.hid hE1
  have e : dayB dd = true := by unfold dayB; simp; omega
  rw [e] at HDay
  clear q0 hE1 e
  go_wp2_with fail
  refine HDay.out.mono ?_
  rintro e w1 ⟨rfl, rfl⟩
  go_wp2_with fail
  refine (HFind.out _ (Below.refl _ _)).mono ?_
  rintro e w1 ⟨da, dc, X, rfl, hX, hA, hb⟩
  have HX := Lib.hid hX
  have HA := Lib.hid hA
  have HB1 := Lib.hid hb
  clear hX hA hb
  by_cases q1 : fe = 0
  rotate_left
  · have q1' : (fe != 0) = true := by simpa using q1
    have hX : x.E = fe := by rw [HE1.out, if_pos q1]
    have HXe := Lib.hid hX
    have HQ1 := Lib.hid q1
    clear q1 hX
    go_wp2_with fail
    go_ret2
    exact HNo.out _ _ HXe.out HQ1.out HB1.out
  have q1' : (fe != 0) = false := by simpa using q1
  have hE2 := HE1.out
  rw [if_neg (by simpa using q1)] at hE2
  have HE2 := Lib.hid hE2
  have HQ1 := Lib.hid q1
  clear q1 hE2
  go_wp2_with fail
  refine (HChg.out _ HB1.out).mono ?_
  rintro e w2 ⟨rfl, hb⟩
  have HB2 := Lib.hid (up2 HB1.out hb)
  have HA2 := Lib.hid (HA.out.up hb)
  clear hb
  by_cases q2 : ce = 0
  rotate_left
  · have q2' : (ce != 0) = true := by simpa using q2
    have hX : x.E = ce := by rw [HE2.out, if_pos q2]
    have HXe := Lib.hid hX
    have HQ2 := Lib.hid q2
    clear q2 hX
    go_wp2_with fail
    go_ret2
    exact HNo.out _ _ HXe.out HQ2.out HB2.out
  have q2' : (ce != 0) = false := by simpa using q2
  have hE3 := HE2.out
  rw [if_neg (by simpa using q2)] at hE3
  have HE3 := Lib.hid hE3
  clear q2 hE3
  go_wp2_with fail
  refine (HLik.out _ HB2.out).mono ?_
  rintro e w3 ⟨rfl, hb⟩
  have HB3 := Lib.hid (up2 HB2.out hb)
  have HA3 := Lib.hid (HA2.out.up hb)
  clear hb
  by_cases q3 : le = 0
  rotate_left
  · have q3' : (le != 0) = true := by simpa using q3
    have hX : x.E = le := by rw [HE3.out, if_pos q3]
    have HXe := Lib.hid hX
    have HQ3 := Lib.hid q3
    clear q3 hX
    go_wp2_with fail
    go_ret2
    exact HNo.out _ _ HXe.out HQ3.out HB3.out
  have q3' : (le != 0) = false := by simpa using q3
  have hE4 := HE3.out
  rw [if_neg (by simpa using q3)] at hE4
  have HE4 := Lib.hid hE4
  have hXl : X.length = x.n := by
    have := congrArg List.length HX.out
    rw [List.length_map] at this
    rw [this, HDd.out]; rfl
  have HXn := Lib.hid hXl
  have HX1 : Hid (X.map DuX.d = findV x.S x.l x.d) := Lib.hid (by rw [HX.out, HDd.out])
  have HAlA := Lib.hid (HAloA.out HQ1.out)
  have HNam : Hid (Am NN) := Lib.hid (HNA.out (by simpa using q3))
  have HC := Lib.hid (HAlones.out w3 da dc X HQ1.out HX1.out hXl HA3.out)
  rw [hXl]
  obtain ⟨n, hn⟩ : ∃ n, n = x.n := ⟨_, rfl⟩
  rw [← hn] at HC HE4 HXn HTracks HDone HOv ⊢
  obtain ⟨al, hal⟩ : ∃ al, al = x.alo := ⟨_, rfl⟩
  rw [← hal] at HC HE4 HDone HOv HAlA
  clear q3 hE4 hXl hn hal
  go_wp2_with fail
  refine HC.out.mono ?_
  rintro e w4 ⟨ab, rfl, hb, hab0, hI⟩
  have HB4 := Lib.hid (up2 HB3.out hb)
  have HA4 := Lib.hid (HA3.out.up hb)
  have HI4 := Lib.hid hI
  have HAb : Hid (w.heap.size ≤ ab) := Lib.hid (Nat.le_trans HB3.out.size hab0)
  have HAll := Lib.hid (all_any NN al (some ⟨ab, 0, none⟩) n n w4 HAlA.out HNam.out (ints_arg0 hI))
  unfold AllPost Listed at HAll
  rw [← HOv.out] at HAll
  obtain ⟨ae, hae⟩ : ∃ ae, ae = allE NN al n := ⟨_, rfl⟩
  rw [← hae] at HAll HE4
  clear hb hab0 hI hae
  go_wp2_with fail
  refine HAll.out.mono ?_
  rintro e w5 ⟨⟨hb, ⟨q, rfl⟩ | ⟨q, p, rfl, hp, hI⟩⟩, _⟩
  · have HB5 := Lib.hid (up2 HB4.out hb)
    have q' : (ae != 0) = true := by simpa using q
    have HQ := Lib.hid q
    clear hb q
    go_wp2_with fail
    go_ret2
    exact HNo.out _ _ HE4.out HQ.out HB5.out
  · have HB5 := Lib.hid (up2 HB4.out hb)
    have HA5 := Lib.hid (HA4.out.up hb)
    have HI5 := Lib.hid (ints_up HI4.out hb)
    have q' : (ae != 0) = false := by simpa using q
    have HE0 : Hid (x.E = 0) := Lib.hid (by rw [HE4.out]; exact q)
    have HT := Lib.hid (HTracks.out w5 da dc p X HE0.out HX1.out HXn.out HA5.out hI)
    clear hb q hp hI
    go_wp2_with fail
    refine HT.out.mono ?_
    rintro e w6 ⟨tb, P, Q, rfl, hG⟩
    have HF := Lib.hid (HDone.out w5 w6 ab tb P Q HE0.out HB5.out HAb.out HI5.out hG)
    clear hG
    go_wp2_with fail
    go_ret2
    exact .inr ⟨HE0.out, _, rfl, HF.out⟩
theorem pck : PcK Pgc where
  up := fun h q => h.up q
  keep := fun h hk hi hn => h.keep hk hi hn
  lt := fun h => h.lt
  fine := fun h => h.fine
  tell := fun du dy n ⟨_, _, _, _, _, _, h⟩ hn => cxtell_any h du dy n hn
  onward := fun dy n ⟨_, _, _, _, _, _, h⟩ hn => cxonward_any h dy n hn
  afresh := fun dy n ⟨_, _, _, _, _, _, h⟩ hn => cxafresh_any h dy n hn
  price := fun ⟨_, _, _, _, _, _, h⟩ => cxprice_any h
  day := fun ⟨_, _, _, _, _, _, h⟩ => cxdays_any h
  many := fun ⟨_, _, _, _, _, _, h⟩ => cxmany_any h
  allot := fun k ⟨_, _, _, _, _, _, h⟩ => cxallot_any h k
  earned := fun k d ⟨_, _, _, _, _, _, h⟩ => cxear_any h k d
  all := fun d ⟨_, _, _, _, _, _, h⟩ => cxall_any h d
  duty := fun k ⟨_, _, _, _, _, _, h⟩ => cxduty_any h k
end Go.Proofs.YtklaonoekmhakaaGreat

namespace Go.Proofs.YtklaonoekmhakaaGreat
open Go.RowKit

theorem opS_no {S : Ct} {x : Op4} (q : S.opE x ≠ 0) : (S.opS x).N = S.N ∧ (S.opS x).la = S.la := by
  unfold Ct.opE at q
  unfold Ct.opS
  split at q
  · rw [if_pos (by assumption)]
    unfold Ct.onwS; rw [if_neg q]; exact ⟨rfl, rfl⟩
  · rename_i q1
    rw [if_neg q1]
    split at q
    · rw [if_pos (by assumption)]
      unfold Ct.afrS; rw [if_neg q]; exact ⟨rfl, rfl⟩
    · rename_i q2
      rw [if_neg q2]
      unfold Ct.telS; split <;> exact ⟨rfl, rfl⟩
theorem FineC.alt_am {S : Ct} (h : FineC S) : Amounts S.alt := fun t => by
  by_cases ht : t < S.n
  · have hp : ∀ i, i < S.n → 0 ≤ S.alt i := fun i hi => by
      have := (ct_whole h (Int.le_refl _) (Int.le_refl _)).1 i hi
      omega
    have h1 := hp t ht
    have h2 := sumN_term hp ht
    rw [h.sum] at h2
    have h3 := h.N1
    show (-9223372036854775808 : Int) ≤ _ ∧ _ ≤ (9223372036854775807 : Int)
    omega
  · have e : S.alt t = 0 := by unfold Ct.alt; rw [Ct.out_tr ht]; rfl
    rw [e]; exact ⟨by decide, by decide⟩
set_option maxRecDepth 100000 in
set_option maxHeartbeats 16000000 in
theorem whole16_law {Cf : World → World → Nat → Ct → Prop} (K : CfK Cf) (N : CfN Cf) (A : Aw16) (t : Tm) (p : TmP) (a : Option Addr) (cap : Nat) (l : List Op4) (early late : Int) (w : World) (h : TmA w p t) (g : TmG t) (hR : O4A w a l) (hAm : AmP l) :
    Calls Tryz.prog 4 #[t.val p, .slice a l.length cap, .int .i64 early, .int .i64 late] w fun e w' => e = .returned (.bool true) ∧ Below w.heap.size w w' := by
  have HAw := Lib.hid A
  have HLg := Lib.hid (fun (W : World) => large16_any W t p l a cap)
  have HMade := Lib.hid (fun (W : World) (q : Below w.heap.size w W) (q1 : bigT t l = false) => made16_any N (h.up q) g (by unfold bigT at q1; simp at q1; omega) (by unfold bigT at q1; simp at q1; omega))
  have HLn : Hid (bigT t l = false → l.length ≤ 60) := Lib.hid (fun q1 => by unfold bigT at q1; simp at q1; omega)
  have HDo := Lib.hid (fun (w0 W : World) (c : Nat) (S : Ct) (h : Cf w0 W c S) (x : Op4) (q : Am x.n) => do16_any K h x q)
  unfold MadeR at HMade
  have HK := Lib.hid K
  have HR := Lib.hid hR
  have HAm := Lib.hid hAm
  obtain ⟨n, hn⟩ : ∃ n, n = l.length := ⟨_, rfl⟩
  have HN := Lib.hid hn
  rw [← hn] at HLg HLn ⊢
  obtain ⟨big, hbig⟩ : ∃ b, b = bigT t l := ⟨_, rfl⟩
  rw [← hbig] at HLg HMade HLn
  unfold Tm.val at HLg HMade ⊢
  obtain ⟨C0, hC0⟩ : ∃ C, C = (askT t).C := ⟨_, rfl⟩
  rw [← hC0] at HMade
  generalize madeE t = me at HMade
  obtain ⟨I, L, m, b, d⟩ := t
  obtain ⟨ia, ic, la, lc, ma, mc⟩ := p
  simp only at HLg HMade ⊢
  generalize I.length = ni at HLg HMade ⊢
  generalize L.length = nl at HLg HMade ⊢
  generalize m.length = nm at HLg HMade ⊢
  unfold Op4.val at HDo
  clear h g hR hAm hn hbig hC0 K N A
  go_enter Tryz.func4, Tryz.ntmps4
  go_wp2_with fail
  have HXB := Lib.hid (Has.fresh w 26 #[.slice ia ni ic, .slice la nl lc, .slice ma nm mc, .int .i64 b, .int .i64 d])
  refine (HAw.out _).mono ?_
  rintro e w1 ⟨rfl, hb⟩
  have hx := HXB.out.up hb
  have x0 := hx.cell 0
  have x1 := hx.cell 1
  have x2 := hx.cell 2
  have x3 := hx.cell 3
  have x4 := hx.cell 4
  simp at x0 x1 x2 x3 x4
  have HX1 := Lib.hid hx
  have HB1 := Lib.hid (up2 (boxed _ _) hb)
  clear hb hx
  go_wp2_with fail
  refine (HLg.out _).mono ?_
  rintro e w2 ⟨rfl, hb⟩
  have HB2 := Lib.hid (up2 HB1.out hb)
  have hx := HX1.out.up hb
  clear x0 x1 x2 x3 x4
  have x0 := hx.cell 0
  have x1 := hx.cell 1
  have x2 := hx.cell 2
  have x3 := hx.cell 3
  have x4 := hx.cell 4
  simp at x0 x1 x2 x3 x4
  clear hb hx
  cases hq : big with
  | true =>
    clear hq
    go_wp2_with fail
    go_ret
    exact ⟨rfl, HB2.out⟩
  | false =>
  have HM := Lib.hid (HMade.out _ HB2.out hq)
  have hn60 := HLn.out hq
  clear hq
  go_wp2_with fail
  refine HM.out.mono ?_
  rintro e w3 (⟨q, rfl, hb⟩ | ⟨q, w0, c, hb, rfl, hc⟩)
  · have HB3 := Lib.hid (up2 HB2.out hb)
    clear q hb x0 x1 x2 x3 x4
    go_wp2_with fail
    go_ret
    exact ⟨rfl, HB3.out⟩
  have HB0 := Lib.hid (up2 HB2.out hb)
  have HC3 := Lib.hid hc
  clear q hb hc x0 x1 x2 x3 x4
  go_wp2_with fail
  go_loopw [40] (fun i wr => ∃ k : Nat, k ≤ n ∧ i = .int .i64 (k : Int) ∧ ∃ S, Cf w0 wr c S) (fun i _ => n - (intOf i).toNat)
  case atStart => exact ⟨0, Nat.zero_le _, rfl, _, HC3.out⟩
  case round =>
    obtain ⟨k, hk, rfl, S, hT⟩ := hrel
    have HT := Lib.hid hT
    have HBr := Lib.hid (up2 HB0.out (HK.out.bel hT))
    clear hT
    by_cases hlt : k < n
    · obtain ⟨y, hy⟩ : ∃ y, l[k]? = some y := ⟨l[k]'(by rw [← HN.out]; exact hlt), List.getElem?_eq_getElem _⟩
      obtain ⟨gb, o, rfl, c0, c1, c2, c3⟩ := o4_at (HR.out.up HBr.out) hy
      have hay := HAm.out y (List.mem_of_getElem? hy)
      have e1 : IntKind.i64.wrap ((k : Int) + 1) = (k : Int) + 1 := IntWalk.i64_in _ (by omega)
      have HNo : Hid (S.opE y ≠ 0 → (S.opS y).N = S.N ∧ (S.opS y).la = S.la) := Lib.hid opS_no
      have HTl := Lib.hid (fun (W : World) (q : Cf w0 W c S) => HDo.out _ _ _ _ q y hay)
      obtain ⟨S', hS'⟩ : ∃ z, z = S.opS y := ⟨_, rfl⟩
      obtain ⟨X, hX⟩ : ∃ z, z = S.opE y := ⟨_, rfl⟩
      rw [← hS', ← hX] at HTl
      rw [← hS', ← hX] at HNo
      obtain ⟨A, B, C, D⟩ := y
      simp only at c0 c1 c2 c3 HTl
      have HPr := Lib.hid (HK.out.price (HK.out.up HT.out (boxed wr (.cells #[.int .i64 A, .int .i64 B, .int .i64 C, .int .i64 D] 38))))
      have HDa := Lib.hid (fun (W : World) (q : Below wr.heap.size wr W) => HK.out.day (HK.out.up HT.out q))
      obtain ⟨NN, hNN⟩ : ∃ z, z = S.N := ⟨_, rfl⟩
      obtain ⟨LA, hLA⟩ : ∃ z, z = S.la := ⟨_, rfl⟩
      rw [← hNN] at HPr HNo
      rw [← hLA] at HDa HNo
      have HBx := Lib.hid (Has.fresh wr 38 #[.int .i64 A, .int .i64 B, .int .i64 C, .int .i64 D])
      have HB1 := Lib.hid (boxed wr (.cells #[.int .i64 A, .int .i64 B, .int .i64 C, .int .i64 D] 38))
      clear hy hay hS' hX hNN hLA
      go_wp2_with fail
      refine HPr.out.mono ?_
      rintro e w5 ⟨rfl, hb⟩
      have HB5 := Lib.hid (up2 HB1.out hb)
      have HX5 := Lib.hid (HBx.out.up hb)
      clear hb c0 c1 c2 c3
      go_wp2_with fail
      refine (HDa.out _ HB5.out).mono ?_
      rintro e w6 ⟨rfl, hb⟩
      have HB6 := Lib.hid (up2 HB5.out hb)
      have hx := HX5.out.up hb
      have x0 := hx.cell 0
      have x1 := hx.cell 1
      have x2 := hx.cell 2
      have x3 := hx.cell 3
      simp at x0 x1 x2 x3
      have HT6 := Lib.hid (HTl.out _ (HK.out.up HT.out HB6.out))
      clear hb hx
      go_wp2_with fail
      refine HT6.out.mono ?_
      rintro e w7 ⟨rfl, hs⟩
      have HS7 := Lib.hid hs
      clear hs x0 x1 x2 x3
      by_cases q : X = 0
      · have b1 : (X != 0) = false := by simpa using q
        clear q
        go_wp2_with fail
        exact ⟨⟨k + 1, by omega, by go_num, _, HS7.out⟩, by simp [intOf]; omega⟩
      · have b1 : (X != 0) = true := by simpa using q
        have HP7 := Lib.hid (fun (W : World) (z : Cf w0 W c S') => HK.out.price z)
        have HD7 := Lib.hid (fun (W : World) (z : Cf w0 W c S') => HK.out.day z)
        rw [(HNo.out q).1] at HP7
        rw [(HNo.out q).2] at HD7
        have b2 : (NN != NN) = false := by simp
        have b3 : (LA != LA) = false := by simp
        clear q
        go_wp2_with fail
        refine (HP7.out _ HS7.out).mono ?_
        rintro e w8 ⟨rfl, hb⟩
        have HS8 := Lib.hid (HK.out.up HS7.out hb)
        clear hb
        go_wp2_with fail
        refine (HD7.out _ HS8.out).mono ?_
        rintro e w9 ⟨rfl, hb⟩
        have HS9 := Lib.hid (HK.out.up HS8.out hb)
        clear hb
        go_wp2_with fail
        exact ⟨⟨k + 1, by omega, by go_num, _, HS9.out⟩, by simp [intOf]; omega⟩
    · obtain rfl : k = n := by omega
      have HF := Lib.hid (HK.out.fine HT.out)
      have HDa := Lib.hid (HK.out.day HT.out)
      obtain ⟨LA, hLA⟩ : ∃ z, z = S.la := ⟨_, rfl⟩
      rw [← hLA] at HDa
      have HLa := Lib.hid hLA
      clear hlt hLA hk hn60
      go_wp2_with fail
      refine HDa.out.mono ?_
      rintro e w5 ⟨rfl, hb⟩
      have HT5 := Lib.hid (HK.out.up HT.out hb)
      clear hb
      go_wp2_with fail
      obtain ⟨ea, hea⟩ : ∃ z, z = max early LA := ⟨_, rfl⟩
      obtain ⟨lt, hlt⟩ : ∃ z, z = max early (max LA late) := ⟨_, rfl⟩
      rw [← hea, ← hlt]
      have HW := Lib.hid (ct_whole HF.out (a := ea) (b := lt) (by rw [← HLa.out]; omega) (by omega))
      clear hea hlt
      have hM64 := HF.out.n1
      have hM0 := HF.out.n0
      have HMany := Lib.hid (fun (W : World) (q : Below w5.heap.size w5 W) => HK.out.many (HK.out.up HT5.out q))
      have HAlt := Lib.hid (fun (W : World) (q : Below w5.heap.size w5 W) (j : Int) => HK.out.allot j (HK.out.up HT5.out q))
      have HEar := Lib.hid (fun (W : World) (q : Below w5.heap.size w5 W) (j d : Int) => HK.out.earned j d (HK.out.up HT5.out q))
      have HPri := Lib.hid (fun (W : World) (q : Below w5.heap.size w5 W) => HK.out.price (HK.out.up HT5.out q))
      have HAll := Lib.hid (fun (W : World) (q : Below w5.heap.size w5 W) => HK.out.all lt (HK.out.up HT5.out q))
      obtain ⟨M, hM⟩ : ∃ M, M = S.n := ⟨_, rfl⟩
      rw [← hM] at hM64 hM0 HMany
      have HMe := Lib.hid hM
      clear hM
      go_loopw [16, 17, 18] (fun v u i wr => ∃ j : Nat, j ≤ M ∧ i = .int .i64 (j : Int) ∧ ∃ a1 c1 a2 c2, v = .slice a1 j c1 ∧ u = .slice a2 j c2 ∧ OwL wr w5.heap.size [⟨2, 1, .slice a1 j c1, j, valsTo S.alt j⟩, ⟨2, 1, .slice a2 j c2, j, valsTo (S.ear lt) j⟩] ∧ Below w5.heap.size w5 wr) (fun _ _ i _ => M - (intOf i).toNat)
      case atStart =>
        refine ⟨0, Nat.zero_le _, rfl, none, 0, none, 0, rfl, rfl, OwL.nils fun x hx => ⟨2, 1, ?_⟩, Below.refl _ _⟩
        rcases List.mem_cons.1 hx with hx | hx
        · exact hx
        · exact List.mem_singleton.1 hx
      case round =>
        obtain ⟨wz, hwz⟩ : ∃ wz, wz = wr := ⟨_, rfl⟩
        rw [← hwz] at hrel ⊢
        clear hwz
        obtain ⟨j, hj, rfl, a1, c1, a2, c2, rfl, rfl, hO, hb⟩ := hrel
        have HO := Lib.hid hO
        have HB := Lib.hid hb
        have HMy := Lib.hid (HMany.out _ hb)
        clear hO hb
        by_cases hlt : j < M
        · have hjn : (j : Int) < (M : Int) := by omega
          have e1 : IntKind.i64.wrap ((j : Int) + 1) = (j : Int) + 1 := IntWalk.i64_in _ (by omega)
          have hhas : S.has (j : Int) = true := by unfold Ct.has; rw [← HMe.out]; simp; omega
          have hE : ∀ d, S.earA (j : Int) d = S.ear d j := fun d => by unfold Ct.earA; rw [if_pos hhas]; rfl
          have hA : S.altA (j : Int) = S.alt j := by unfold Ct.altA; rw [if_pos hhas]; rfl
          have HAj := Lib.hid (fun (W : World) (q : Below w5.heap.size w5 W) => HAlt.out W q (j : Int))
          have HEj := Lib.hid (fun (W : World) (q : Below w5.heap.size w5 W) => HEar.out W q (j : Int) ea)
          have HLj := Lib.hid (fun (W : World) (q : Below w5.heap.size w5 W) => HEar.out W q (j : Int) lt)
          rw [hA] at HAj
          rw [hE] at HEj HLj
          obtain ⟨v1, v2, v3⟩ := HW.out.1 j (by rw [← HMe.out]; exact hlt)
          obtain ⟨al, hal⟩ : ∃ z, z = S.alt j := ⟨_, rfl⟩
          obtain ⟨ev, hev⟩ : ∃ z, z = S.ear ea j := ⟨_, rfl⟩
          obtain ⟨lv, hlv⟩ : ∃ z, z = S.ear lt j := ⟨_, rfl⟩
          rw [← hal] at HAj v3
          rw [← hev] at HEj v1 v2
          rw [← hlv] at HLj v2 v3
          have HAe := Lib.hid hal
          have HLe := Lib.hid hlv
          have q1 : ¬ ev < 0 := by omega
          have q2 : ¬ lv < ev := by omega
          have q3 : ¬ al < lv := by omega
          clear hhas hE hA hal hev hlv
          go_wp2_with fail
          refine HMy.out.mono ?_
          rintro e w6 ⟨rfl, hb⟩
          have HB6 := Lib.hid (up2 HB.out hb)
          have HO6 := Lib.hid (HO.out.up hb)
          clear hb
          go_wp2_with fail
          refine (HAj.out _ HB6.out).mono ?_
          rintro e w7 ⟨rfl, hb⟩
          have HB7 := Lib.hid (up2 HB6.out hb)
          have HO7 := Lib.hid (HO6.out.up hb)
          clear hb
          go_wp2_with fail
          refine (HEj.out _ HB7.out).mono ?_
          rintro e w8 ⟨rfl, hb⟩
          have HB8 := Lib.hid (up2 HB7.out hb)
          have HO8 := Lib.hid (HO7.out.up hb)
          clear hb
          go_wp2_with fail
          refine (HLj.out _ HB8.out).mono ?_
          rintro e w9 ⟨rfl, hb⟩
          have HB9 := Lib.hid (up2 HB8.out hb)
          have HO9 := Lib.hid (HO8.out.up hb)
          clear hb
          obtain ⟨Wa, hWa⟩ : ∃ W, W = w9.alloc (.cells #[.int .i64 al] 2) := ⟨_, rfl⟩
          have hba : Below w9.heap.size w9 Wa := by rw [hWa]; exact boxed _ _
          obtain ⟨a3, c4, wb, hrb, hob, hbb, _⟩ := owl_num (w0 := w5) (HO9.out.up hba) (i := 0) (k := j) rfl (by omega) (y := w9.heap.size) (by rw [hWa]; exact Has.fresh _ _ _) (up2 HB9.out hba) (Nat.le_refl _) (up2 HB9.out hba).size 64
          obtain ⟨Wc, hWc⟩ : ∃ W, W = wb.alloc (.cells #[.int .i64 lv] 2) := ⟨_, rfl⟩
          have hbc : Below wb.heap.size wb Wc := by rw [hWc]; exact boxed _ _
          obtain ⟨a5, c6, wd, hrd, hod, hbd, _⟩ := owl_num (w0 := w5) (hob.up hbc) (i := 1) (k := j) rfl (by omega) (y := wb.heap.size) (by rw [hWc]; exact Has.fresh _ _ _) (up2 hbb hbc) (Nat.le_refl _) (up2 hbb hbc).size 64
          have HRb := Lib.hid hrb
          have HRd := Lib.hid hrd
          have HOd := Lib.hid hod
          have HBd := Lib.hid hbd
          have HWa := Lib.hid hWa
          have HWc := Lib.hid hWc
          clear hrb hrd hod hbd hWa hWc hba hbc hob hbb
          go_wp2_with (first
            | (rw [← HWa.out]; refine wpList_run (o := ⟨some 105, _, _, _, _, _⟩) rfl (.tmp 102) (.tmp 104) 64 rfl _ _ rfl rfl (S := fun u q => u = .slice a3 (j + 1) c4 ∧ q = wb) ⟨_, wb, HRb.out, rfl, rfl⟩ ?_; rintro u q ⟨rfl, rfl⟩)
            | (rw [← HWc.out]; refine wpList_run (o := ⟨some 109, _, _, _, _, _⟩) rfl (.tmp 106) (.tmp 108) 64 rfl _ _ rfl rfl (S := fun u q => u = .slice a5 (j + 1) c6 ∧ q = wd) ⟨_, wd, HRd.out, rfl, rfl⟩ ?_; rintro u q ⟨rfl, rfl⟩)
            | fail)
          refine ⟨⟨j + 1, by omega, by go_num, _, _, _, _, rfl, rfl, ?_, HBd.out⟩, by simp [intOf]; omega⟩
          rw [valsTo_step, valsTo_step, ← HAe.out, ← HLe.out]
          exact HOd.out
        · obtain rfl : j = M := by omega
          have hA1 : Arg wz a1 j S.alt := fun hp => by
            obtain ⟨g, cc, e, _, hI⟩ := vals_ints hp (HO.out.own 0 _ rfl)
            injection e with e
            subst e
            exact ints_arg0 hI hp
          have hA2 : Arg wz a2 j (S.ear lt) := fun hp => by
            obtain ⟨g, cc, e, _, hI⟩ := vals_ints hp (HO.out.own 1 _ rfl)
            injection e with e
            subst e
            exact ints_arg0 hI hp
          have HS1 := Lib.hid (fun (W : World) (q : Below wz.heap.size wz W) => sum_arg S.alt a1 j c1 W HF.out.alt_am (by omega) (hA1.up13 q))
          have HS2 := Lib.hid (fun (W : World) (q : Below wz.heap.size wz W) => sum_arg (S.ear lt) a2 j c2 W (HF.out.ear_am lt) (by omega) (hA2.up13 q))
          have hs1 : sumN S.alt j = S.N := by rw [HMe.out]; exact HF.out.sum
          have hs2 : sumN (S.ear lt) j = S.all lt := by rw [HMe.out]; rfl
          rw [hs1] at HS1
          rw [hs2] at HS2
          have hN0 := HF.out.N0
          have hN1 := HF.out.N1
          have hA0 := (HF.out.all_bd lt).1
          have hle := HW.out.2
          obtain ⟨NN, hNN⟩ : ∃ z, z = S.N := ⟨_, rfl⟩
          obtain ⟨AA, hAA⟩ : ∃ z, z = S.all lt := ⟨_, rfl⟩
          rw [← hNN] at HS1 HPri hN0 hN1 hle
          rw [← hAA] at HS2 HAll hA0 hle
          rw [show tellV NN = NN from (by unfold tellV; rw [if_pos (by constructor <;> omega)]), show tellE NN = 0 from (by unfold tellE; rw [if_pos (by constructor <;> omega)])] at HS1
          rw [show tellV AA = AA from (by unfold tellV; rw [if_pos (by constructor <;> omega)]), show tellE AA = 0 from (by unfold tellE; rw [if_pos (by constructor <;> omega)])] at HS2
          have hle' : ¬ NN < AA := by omega
          clear hlt hA1 hA2 hs1 hs2 hNN hAA hj
          go_wp2_with fail
          refine HMy.out.mono ?_
          rintro e w6 ⟨rfl, hb⟩
          have HZ6 := Lib.hid hb
          clear hb
          go_wp2_with fail
          refine (HS1.out _ HZ6.out).mono ?_
          rintro e w7 ⟨rfl, hb⟩
          have HZ7 := Lib.hid (up2 HZ6.out hb)
          clear hb
          go_wp2_with fail
          refine (HS2.out _ HZ7.out).mono ?_
          rintro e w8 ⟨rfl, hb⟩
          have HZ8 := Lib.hid (up2 HB.out (up2 HZ7.out hb))
          clear hb
          go_wp2_with fail
          refine (HPri.out _ HZ8.out).mono ?_
          rintro e w9 ⟨rfl, hb⟩
          have HZ9 := Lib.hid (up2 HZ8.out hb)
          clear hb
          go_wp2_with fail
          refine (HAll.out _ HZ9.out).mono ?_
          rintro e wa ⟨rfl, hb⟩
          have HZa := Lib.hid (up2 HZ9.out hb)
          clear hb
          go_wp2_with fail
          refine (HPri.out _ HZa.out).mono ?_
          rintro e wb ⟨rfl, hb⟩
          have HZb := Lib.hid (up2 HZa.out hb)
          clear hb
          go_wp2_with fail
          go_ret
          exact ⟨by simp, up2 HB0.out (HK.out.bel (HK.out.up HT5.out HZb.out))⟩
end Go.Proofs.YtklaonoekmhakaaGreat
