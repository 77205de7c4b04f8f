/- The program's contract: New; all that is asked of it. -/
import Derived.Test.YtklaonoekmhakaaGreatCoB
import Derived.Test.YtklaonoekmhakaaGreatOv
import Derived.Test.YtklaonoekmhakaaGreatCoD
import Derived.Test.YtklaonoekmhakaaGreatDuI
import Derived.Test.YtklaonoekmhakaaGreatTrMem
import Derived.Test.YtklaonoekmhakaaGreatAlJ
namespace Go.Proofs.YtklaonoekmhakaaGreat
open Go.RowKit

section
variable {w w4 w5 w' : World} {x : Askd} {c : Nat} {ab tb n : Nat} {P : Nat → Nat} {Q : Nat → Nat → Prop}
theorem CNewR.no {X : Int} (h : x.E = X) (h0 : X ≠ 0) (hb : Below w.heap.size w w') : CNewR (CfOf Pgc) w x (.returned (.tuple #[.pointer none, .int .i64 X])) w' := .inl ⟨by rw [h]; exact h0, by rw [h], hb⟩
/-- a contract that is made -/
theorem Gnw.done (h : Gnw w5 w' tb x.n (fun t => (x.C.tr t).d) (outV x.N x.alo x.n) x.n P Q) (F : FineC x.C) (hls : ∀ y ∈ x.C.T, y.d.ls.length ≤ 1000) (hb5 : Below w.heap.size w w5) (hab : Ints w5 ab x.n x.alo) (h0 : 0 < x.n) (hab0 : w.heap.size ≤ ab) :
    CfOf Pgc w (w'.alloc (.cells #[.slice (some ⟨ab, 0, none⟩) x.n x.n, .slice (some ⟨tb, 0, none⟩) x.n x.n, .int .i64 x.N, .int .i64 x.d, .int .i64 0] 94)) w'.heap.size x.C := by
  have hn : x.C.n = x.n := askd_n x
  have hbx := boxed w' (.cells #[.slice (some ⟨ab, 0, none⟩) x.n x.n, .slice (some ⟨tb, 0, none⟩) x.n x.n, .int .i64 x.N, .int .i64 x.d, .int .i64 0] 94)
  have hbel := up2 hb5 h.bel
  have hfr := Has.fresh w' 94 #[.slice (some ⟨ab, 0, none⟩) x.n x.n, .slice (some ⟨tb, 0, none⟩) x.n x.n, .int .i64 x.N, .int .i64 x.d, .int .i64 0]
  have h' := h.up hbx
  obtain ⟨cs, k1, k2, k3⟩ := h'.ptr
  obtain ⟨cs0, k10, _, _⟩ := h.ptr
  have htb := k10.lt
  have habl : ab < w5.heap.size := World.block_lt_of_cell? (a := ⟨ab, 0, none⟩) _ (hab 0 h0).1
  have hs5 := h.bel.size
  have hs := hb5.size
  have hsx := hbx.size
  have hql : ∀ t, t < x.n → ∀ g, Q t g → g < w'.heap.size := fun t ht g hg => (h.trk t ht).lt g hg
  have hcl := hfr.lt
  have hal : ∀ t, t < x.n → x.C.alo t = x.alo t := fun t ht => by
    unfold Ct.alo Ct.tr
    rw [askd_tr x ht]; rfl
  have hin := ints_up hab (up2 h.bel hbx)
  refine ⟨Fr w _, ⟨P, Q, ab, tb, x.n, x.n, ?_, ⟨rfl, fun t ht => ?_, fun t ht => ?_, fun t ht => ?_, fun t u ht hu => h.apart t u (by rw [← hn]; exact ht) (by rw [← hn]; exact hu), fun t ht g hg => ?_, ⟨by omega, hcl⟩, ⟨hab0, by omega⟩, ⟨by have := h.tb0; omega, by omega⟩, fun t ht hg => ?_, fun t ht hg => ?_, fun t ht hg => ?_, by omega, by omega, fun g hg => hg.2⟩, F, hls⟩, fun g hg => hg.1, up2 hbel hbx⟩
  · rw [hn]
    exact hfr
  · rw [hn] at ht
    rw [hal t ht]
    exact hin t ht
  · rw [hn] at ht
    rw [k1.cell]; exact k3 t ht
  · rw [hn] at ht
    have hz := h'.trk t ht
    have e : x.C.T.getD t trk0 = ⟨(x.C.tr t).d, [], [⟨0, 0, 0, outV x.N x.alo x.n t⟩]⟩ := by
      have := askd_tr x ht
      unfold Ct.tr
      rw [this]
    rw [e]
    exact hz
  · rw [hn] at ht
    have := (h.new t ht g hg).1
    have := hql t ht g hg
    exact ⟨by omega, by omega⟩
  · rw [hn] at ht
    have := hql t ht _ hg; omega
  · rw [hn] at ht
    have := (h.new t ht _ hg).1; omega
  · rw [hn] at ht
    exact (h.new t ht _ hg).2 rfl
end
set_option maxRecDepth 100000 in
set_option maxHeartbeats 16000000 in
theorem cxnew_any : CfN (CfOf Pgc) := by
  intro w bp r x la ma lc mc h hL hl hln hlg hm hmn hmg
  have F : FineB x.S := by
    obtain ⟨_, _, _, h⟩ := h
    exact h.fine
  have HFind := Lib.hid (fun (W : World) (q : Below w.heap.size w W) => find_any la lc x.l x.d (h.up q) (hl.up q) fun y hy => (hlg y hy).2.1)
  have HChg := Lib.hid (fun (W : World) (q : Below w.heap.size w W) => charge_any la lc x.l W (hl.up q) (by omega) fun y hy => (hlg y hy).2.2.1)
  have HLik := Lib.hid (fun (W : World) (q : Below w.heap.size w W) => likely_any x.fix x.b ma x.m.length mc x.m W rfl (hm.up q) (by unfold Askd.fix; exact tellV_am _) hmg)
  have HE : Hid (x.E = if x.d < 1 ∨ 1000000 < x.d then 1 else if findE x.S x.l x.d ≠ 0 then findE x.S x.l x.d else if tellE (sumTo (chF x.l) x.l.length) ≠ 0 then tellE (sumTo (chF x.l) x.l.length)
    else if likE x.fix x.m x.b ≠ 0 then likE x.fix x.m x.b else allE x.N x.alo x.n) := Lib.hid rfl
  have HFx : Hid (x.fix = tellV (sumTo (chF x.l) x.l.length)) := Lib.hid rfl
  have HNx : Hid (x.N = likV x.fix x.m x.b) := Lib.hid rfl
  have HNo := Lib.hid (fun (w' : World) (X : Int) => @CNewR.no w w' x X)
  have HLen := Lib.hid (fun (q : findE x.S x.l x.d = 0) => find_len (S := x.S) (l := x.l) (d := x.d) q)
  have HAloA := Lib.hid (fun (q : findE x.S x.l x.d = 0) => askd_alo_am x F q)
  have HNA := Lib.hid (fun (q : likE x.fix x.m x.b = 0) => askd_N_am x q)
  have HAlones : Hid (∀ (W : World) (a : Option Addr) (cap : Nat) (X : List DuX), findE x.S x.l x.d = 0 → X.map DuX.d = findV x.S x.l x.d → X.length = x.n → DusA W a X → Calls Tryz.prog 69 #[.slice a x.n cap] W (NewI W x.n x.alo)) := Lib.hid fun W a cap X q hX hXl hA => by
    have h12 := (find_len (S := x.S) (l := x.l) (d := x.d) q).2
    refine cxalones_any x.n cap x.alo hXl (by show (findV x.S x.l x.d).length ≤ 64; omega) hA fun t y hy => ?_
    unfold Askd.alo
    rw [askd_at x hX hy]
  have HTracks : Hid (∀ (W : World) (a : Option Addr) (cap p : Nat) (X : List DuX), x.E = 0 → X.map DuX.d = findV x.S x.l x.d → X.length = x.n → DusA W a X → Ints W p x.n (outV x.N x.alo x.n) → Calls Tryz.prog 70 #[.slice a x.n cap, .slice (some ⟨p, 0, none⟩) x.n x.n] W (TracksR W x.n (fun t => (x.C.tr t).d) (outV x.N x.alo x.n))) := Lib.hid fun W a cap p X q hX hXl hA hI => by
    have hz := Askd.zero q
    have h12 := (find_len (S := x.S) (l := x.l) (d := x.d) hz.fnd).2
    refine cxtracks_any x.n cap p _ _ hXl (by show (findV x.S x.l x.d).length ≤ 64; omega) hA (fun t y hy => ?_) hI fun t ht => ?_
    · have htn : t < x.n := by rw [← hXl]; exact (List.getElem?_eq_some_iff.1 hy).1
      have hmem : y.d ∈ findV x.S x.l x.d := by rw [← hX]; exact List.mem_map_of_mem (List.mem_of_getElem? hy)
      obtain ⟨o1, o2, _, _, o5⟩ := find_ok F hz.fnd y.d hmem
      refine ⟨?_, o1, ns_some (hA.2 y (List.mem_of_getElem? hy)) (find_ls hmem), by omega, ?_⟩
      · show (x.C.T.getD t trk0).d = _
        rw [askd_tr x htn, askd_at x hX hy]
      · have := (dtB_iff.1 o1).2.2.1
        have h1 : y.d.dt.un = y.d.un := rfl
        unfold Am; omega
    · have hov := out_nn hz.out hz.N0 ht
      refine ⟨hov, ?_⟩
      have h2 := sumN_term (f := outV x.N x.alo x.n) (n := x.n) (fun i hi => out_nn hz.out hz.N0 hi) ht
      have h3 : sumN (outV x.N x.alo x.n) x.n = x.N := out_whole hz.out
      have h4 := hz.N1
      unfold Am; omega
  have HDone : Hid (∀ (w5 w' : World) (ab tb : Nat) (P : Nat → Nat) (Q : Nat → Nat → Prop), x.E = 0 → Below w.heap.size w w5 → w.heap.size ≤ ab → Ints w5 ab x.n x.alo → Gnw w5 w' tb x.n (fun t => (x.C.tr t).d) (outV x.N x.alo x.n) x.n P Q →
    CfOf Pgc w (w'.alloc (.cells #[.slice (some ⟨ab, 0, none⟩) x.n x.n, .slice (some ⟨tb, 0, none⟩) x.n x.n, .int .i64 x.N, .int .i64 x.d, .int .i64 0] 94)) w'.heap.size x.C) := Lib.hid fun w5 w' ab tb P Q q hb hab0 hab hg => by
    have hz := Askd.zero q
    refine hg.done (Askd.fine F q) (fun y hy => ?_) hb hab (find_len hz.fnd).1 hab0
    obtain ⟨t, ht⟩ := List.getElem?_of_mem hy
    have hl := (List.getElem?_eq_some_iff.1 ht).1
    rw [askd_len] at hl
    have e := askd_tr x hl
    rw [List.getD_eq_getElem?_getD, ht] at e
    have e : y = _ := e
    rw [e]
    show ((((findV x.S x.l x.d).getD t du0).ls).map _).length ≤ 1000
    rw [List.length_map]
    have hl2 : t < (findV x.S x.l x.d).length := hl
    rw [List.getD_eq_getElem?_getD, List.getElem?_eq_getElem hl2]
    have := (find_ok F hz.fnd _ (List.getElem_mem hl2)).2.2.2.2
    show (_ : Nat) ≤ 1000
    exact Nat.le_trans this (by omega)
  unfold FindR at HFind
  unfold ChR at HChg
  unfold CopR at HLik
  unfold NewI at HAlones
  unfold TracksR at HTracks
  have HX0 : Hid (x.E = 0 → CfOf Pgc w w w.heap.size x.C → CfOf Pgc w w w.heap.size x.C) := Lib.hid fun _ z => z
  obtain ⟨dd, hdd⟩ : ∃ dd, dd = x.d := ⟨_, rfl⟩
  obtain ⟨bb, hbb⟩ : ∃ bb, bb = x.b := ⟨_, rfl⟩
  obtain ⟨ln, hlnn⟩ : ∃ ln, ln = x.l.length := ⟨_, rfl⟩
  obtain ⟨mn, hmn2⟩ : ∃ mn, mn = x.m.length := ⟨_, rfl⟩
  obtain ⟨fe, hfe⟩ : ∃ fe, fe = findE x.S x.l x.d := ⟨_, rfl⟩
  rw [← hfe] at HFind HE HLen HAloA HAlones
  rw [← hdd] at HFind HE HDone ⊢
  obtain ⟨ce, hce⟩ : ∃ ce, ce = tellE (sumTo (chF x.l) x.l.length) := ⟨_, rfl⟩
  obtain ⟨le, hle⟩ : ∃ le, le = likE x.fix x.m x.b := ⟨_, rfl⟩
  rw [← hce] at HChg HE
  rw [← HFx.out] at HChg
  rw [← hle] at HLik HE HNA
  rw [← HNx.out] at HLik
  rw [← hbb] at HLik ⊢
  rw [← hlnn] at HFind HChg ⊢
  rw [← hmn2] at HLik ⊢
  have HDd := Lib.hid hdd
  obtain ⟨fx, hfx⟩ : ∃ fx, fx = x.fix := ⟨_, rfl⟩
  rw [← hfx] at HChg HLik
  obtain ⟨NN, hNN⟩ : ∃ NN, NN = x.N := ⟨_, rfl⟩
  rw [← hNN] at HLik HE HTracks HDone HNA
  obtain ⟨ov, hov⟩ : ∃ ov, ov = outV NN x.alo x.n := ⟨_, rfl⟩
  rw [← hov] at HTracks HDone
  have HOv := Lib.hid hov
  clear h hL F hl hln hlg hm hmn hmg hdd hbb hlnn hmn2 hfe hce hle hfx hNN hov HX0 HFx HNx
  go_enter Tryz.func33, Tryz.ntmps33
  have HDay := Lib.hid (cxday_any dd w)
  by_cases q0 : dd < 1 ∨ 1000000 < dd
  · have hX : x.E = 1 := by rw [HE.out, if_pos q0]
    have HX := Lib.hid hX
    have e : dayB dd = false := by unfold dayB; simp; omega
    rw [e] at HDay
    clear hX q0 e
    go_wp2_with fail
    refine HDay.out.mono ?_
    rintro e w1 ⟨rfl, rfl⟩
    go_wp2_with fail
    go_ret2
    exact HNo.out _ _ HX.out (by decide) (Below.refl _ _)
  have hE1 := HE.out
  rw [if_neg q0] at hE1
  have HE1 := Lib.hid hE1
  have e : dayB dd = true := by unfold dayB; simp; omega
  rw [e] at HDay
  clear q0 hE1 e
  go_wp2_with fail
  refine HDay.out.mono ?_
  rintro e w1 ⟨rfl, rfl⟩
  go_wp2_with fail
  refine (HFind.out _ (Below.refl _ _)).mono ?_
  rintro e w1 ⟨da, dc, X, rfl, hX, hA, hb⟩
  have HX := Lib.hid hX
  have HA := Lib.hid hA
  have HB1 := Lib.hid hb
  clear hX hA hb
  by_cases q1 : fe = 0
  rotate_left
  · have q1' : (fe != 0) = true := by simpa using q1
    have hX : x.E = fe := by rw [HE1.out, if_pos q1]
    have HXe := Lib.hid hX
    have HQ1 := Lib.hid q1
    clear q1 hX
    go_wp2_with fail
    go_ret2
    exact HNo.out _ _ HXe.out HQ1.out HB1.out
  have q1' : (fe != 0) = false := by simpa using q1
  have hE2 := HE1.out
  rw [if_neg (by simpa using q1)] at hE2
  have HE2 := Lib.hid hE2
  have HQ1 := Lib.hid q1
  clear q1 hE2
  go_wp2_with fail
  refine (HChg.out _ HB1.out).mono ?_
  rintro e w2 ⟨rfl, hb⟩
  have HB2 := Lib.hid (up2 HB1.out hb)
  have HA2 := Lib.hid (HA.out.up hb)
  clear hb
  by_cases q2 : ce = 0
  rotate_left
  · have q2' : (ce != 0) = true := by simpa using q2
    have hX : x.E = ce := by rw [HE2.out, if_pos q2]
    have HXe := Lib.hid hX
    have HQ2 := Lib.hid q2
    clear q2 hX
    go_wp2_with fail
    go_ret2
    exact HNo.out _ _ HXe.out HQ2.out HB2.out
  have q2' : (ce != 0) = false := by simpa using q2
  have hE3 := HE2.out
  rw [if_neg (by simpa using q2)] at hE3
  have HE3 := Lib.hid hE3
  clear q2 hE3
  go_wp2_with fail
  refine (HLik.out _ HB2.out).mono ?_
  rintro e w3 ⟨rfl, hb⟩
  have HB3 := Lib.hid (up2 HB2.out hb)
  have HA3 := Lib.hid (HA2.out.up hb)
  clear hb
  by_cases q3 : le = 0
  rotate_left
  · have q3' : (le != 0) = true := by simpa using q3
    have hX : x.E = le := by rw [HE3.out, if_pos q3]
    have HXe := Lib.hid hX
    have HQ3 := Lib.hid q3
    clear q3 hX
    go_wp2_with fail
    go_ret2
    exact HNo.out _ _ HXe.out HQ3.out HB3.out
  have q3' : (le != 0) = false := by simpa using q3
  have hE4 := HE3.out
  rw [if_neg (by simpa using q3)] at hE4
  have HE4 := Lib.hid hE4
  have hXl : X.length = x.n := by
    have := congrArg List.length HX.out
    rw [List.length_map] at this
    rw [this, HDd.out]; rfl
  have HXn := Lib.hid hXl
  have HX1 : Hid (X.map DuX.d = findV x.S x.l x.d) := Lib.hid (by rw [HX.out, HDd.out])
  have HAlA := Lib.hid (HAloA.out HQ1.out)
  have HNam : Hid (Am NN) := Lib.hid (HNA.out (by simpa using q3))
  have HC := Lib.hid (HAlones.out w3 da dc X HQ1.out HX1.out hXl HA3.out)
  rw [hXl]
  obtain ⟨n, hn⟩ : ∃ n, n = x.n := ⟨_, rfl⟩
  rw [← hn] at HC HE4 HXn HTracks HDone HOv ⊢
  obtain ⟨al, hal⟩ : ∃ al, al = x.alo := ⟨_, rfl⟩
  rw [← hal] at HC HE4 HDone HOv HAlA
  clear q3 hE4 hXl hn hal
  go_wp2_with fail
  refine HC.out.mono ?_
  rintro e w4 ⟨ab, rfl, hb, hab0, hI⟩
  have HB4 := Lib.hid (up2 HB3.out hb)
  have HA4 := Lib.hid (HA3.out.up hb)
  have HI4 := Lib.hid hI
  have HAb : Hid (w.heap.size ≤ ab) := Lib.hid (Nat.le_trans HB3.out.size hab0)
  have HAll := Lib.hid (all_any NN al (some ⟨ab, 0, none⟩) n n w4 HAlA.out HNam.out (ints_arg0 hI))
  unfold AllPost Listed at HAll
  rw [← HOv.out] at HAll
  obtain ⟨ae, hae⟩ : ∃ ae, ae = allE NN al n := ⟨_, rfl⟩
  rw [← hae] at HAll HE4
  clear hb hab0 hI hae
  go_wp2_with fail
  refine HAll.out.mono ?_
  rintro e w5 ⟨⟨hb, ⟨q, rfl⟩ | ⟨q, p, rfl, hp, hI⟩⟩, _⟩
  · have HB5 := Lib.hid (up2 HB4.out hb)
    have q' : (ae != 0) = true := by simpa using q
    have HQ := Lib.hid q
    clear hb q
    go_wp2_with fail
    go_ret2
    exact HNo.out _ _ HE4.out HQ.out HB5.out
  · have HB5 := Lib.hid (up2 HB4.out hb)
    have HA5 := Lib.hid (HA4.out.up hb)
    have HI5 := Lib.hid (ints_up HI4.out hb)
    have q' : (ae != 0) = false := by simpa using q
    have HE0 : Hid (x.E = 0) := Lib.hid (by rw [HE4.out]; exact q)
    have HT := Lib.hid (HTracks.out w5 da dc p X HE0.out HX1.out HXn.out HA5.out hI)
    clear hb q hp hI
    go_wp2_with fail
    refine HT.out.mono ?_
    rintro e w6 ⟨tb, P, Q, rfl, hG⟩
    have HF := Lib.hid (HDone.out w5 w6 ab tb P Q HE0.out HB5.out HAb.out HI5.out hG)
    clear hG
    go_wp2_with fail
    go_ret2
    exact .inr ⟨HE0.out, _, rfl, HF.out⟩
theorem pck : PcK Pgc where
  up := fun h q => h.up q
  keep := fun h hk hi hn => h.keep hk hi hn
  lt := fun h => h.lt
  fine := fun h => h.fine
  tell := fun du dy n ⟨_, _, _, _, _, _, h⟩ hn => cxtell_any h du dy n hn
  onward := fun dy n ⟨_, _, _, _, _, _, h⟩ hn => cxonward_any h dy n hn
  afresh := fun dy n ⟨_, _, _, _, _, _, h⟩ hn => cxafresh_any h dy n hn
  price := fun ⟨_, _, _, _, _, _, h⟩ => cxprice_any h
  day := fun ⟨_, _, _, _, _, _, h⟩ => cxdays_any h
  many := fun ⟨_, _, _, _, _, _, h⟩ => cxmany_any h
  allot := fun k ⟨_, _, _, _, _, _, h⟩ => cxallot_any h k
  earned := fun k d ⟨_, _, _, _, _, _, h⟩ => cxear_any h k d
  all := fun d ⟨_, _, _, _, _, _, h⟩ => cxall_any h d
  duty := fun k ⟨_, _, _, _, _, _, h⟩ => cxduty_any h k
end Go.Proofs.YtklaonoekmhakaaGreat

namespace Go.Proofs.YtklaonoekmhakaaGreat
open Go.RowKit

/-- numbers in a block of ints that is known whole -/
def NsI (w : World) (a : Option Addr) (l : List Int) : Prop := l = [] ∨ ∃ (g : Nat) (cs : Array Value), a = some ⟨g, 0, none⟩ ∧ Has w g 3 cs ∧ ∀ (i : Nat) (k : Int), l[i]? = some k → cs[i]? = some (.int .i64 k)
theorem NsI.keepT {w w' : World} {a : Option Addr} {l : List Int} (h : NsI w a l) (hs : ∀ g cs, Has w g 3 cs → Has w' g 3 cs) : NsI w' a l := by
  rcases h with h | ⟨g, cs, h1, h2, h3⟩
  · exact .inl h
  · exact .inr ⟨g, cs, h1, hs g cs h2, h3⟩
theorem NsI.up {w w' : World} {a : Option Addr} {l : List Int} (h : NsI w a l) (q : Below w.heap.size w w') : NsI w' a l := h.keepT fun _ _ hh => hh.up q
theorem NsI.put {w : World} {a : Option Addr} {l : List Int} (h : NsI w a l) {r T : Nat} {cs : Array Value} (hr : Has w r T cs) (hT : 3 ≠ T) (i : Nat) (v : Value) : NsI (w.setCell ⟨r, i, none⟩ v) a l :=
  h.keepT fun _ _ hh => hh.off (p := ⟨r, i, none⟩) (hh.ne hr hT) v
theorem NsI.ina {w : World} {a : Option Addr} {l : List Int} (h : NsI w a l) : InA w a l := by
  rcases h with h | ⟨g, cs, h1, h2, h3⟩
  · exact .inl h
  · refine .inr ⟨g, 0, h1, fun i x hx j u hu => ?_⟩
    match j, hu with
    | 0, hu =>
      simp [inC] at hu
      rw [h2.cell, show 0 + i * 1 + 0 = i by omega, h3 i x hx, ← hu]
structure QgX (w : World) (r : Nat) (d : Dt) (E : List Tl) (la : Option Addr) (lc : Nat) (tv : Value) : Prop where
  has : Has w r 57 #[.slice la d.ls.length lc, .int .i64 d.al, .int .i64 d.un, .int .i64 d.me, .int .i64 d.fi, .int .i64 d.la, tv]
  own : w.ownsRow 0 145 2 tv E.length (E.flatMap tlC)
  fine : FineT d E
  lns : NsI w la d.ls
def Qg (w : World) (r : Nat) (d : Dt) (E : List Tl) : Prop := ∃ la lc tv, QgX w r d E la lc tv
section
variable {w w' : World} {r : Nat} {d : Dt} {E : List Tl} {la : Option Addr} {lc : Nat} {tv : Value}
theorem QgX.up (h : QgX w r d E la lc tv) (q : Below w.heap.size w w') : QgX w' r d E la lc tv := ⟨h.has.up q, own_up h.own q, h.fine, h.lns.up q⟩
theorem Qg.up (h : Qg w r d E) (q : Below w.heap.size w w') : Qg w' r d E := by obtain ⟨la, lc, tv, h⟩ := h; exact ⟨la, lc, tv, h.up q⟩
theorem Qg.lt (h : Qg w r d E) : r < w.heap.size := by obtain ⟨la, lc, tv, h⟩ := h; exact h.has.lt
theorem Qg.fine (h : Qg w r d E) : FineT d E := by obtain ⟨la, lc, tv, h⟩ := h; exact h.fine
theorem QgX.row (h : QgX w r d E la lc tv) : ∃ a c, tv = .slice a E.length c ∧ TlA w a E := by
  obtain ⟨a, c, e, _⟩ := own_form3 h.own
  subst e
  exact ⟨a, c, rfl, (own_rws tl_len h.own rfl).1⟩
end
section
variable {w : World} {d : Dt} {a : Option Addr} {c : Nat}
set_option maxRecDepth 100000 in
set_option maxHeartbeats 2000000 in
theorem qtn_yes (hd : dtB d = true) (hls : NsI w a d.ls) : Calls Tryz.prog 109 #[d.val a c] w fun e w' => ∃ r, e = .returned (.tuple #[.pointer (some ⟨r, 0, none⟩), .int .i64 0]) ∧ Qg w' r d [] ∧ Below w.heap.size w w' ∧ w.heap.size ≤ r := by
  have hn := dtB_iff.1 hd
  have HF := Lib.hid (FineT.nil hd)
  obtain ⟨ls, al, un, me, fi, la⟩ := d
  unfold Dt.val
  simp only at hn hls ⊢
  have HLs := Lib.hid hls
  obtain ⟨n, hnn⟩ : ∃ n, n = ls.length := ⟨_, rfl⟩
  rw [← hnn]
  have HN := Lib.hid hnn
  have h1 : ¬ me < 0 := by omega
  have h2 : ¬ 3 < me := by omega
  have h3 : ¬ un < 1 := by omega
  have h4 : ¬ fi < 1 := by omega
  have h5 : ¬ la < fi := by omega
  have h6 : ¬ 1000000 < la := by omega
  clear hd hn hnn hls
  go_enter Tryz.func109, Tryz.ntmps109
  go_wp2_with fail
  go_ret2
  refine ⟨_, rfl, ⟨a, c, .slice none 0 0, ?_, World.ownsRow_nil _ _ _ _, HF.out, HLs.out.up (up2 (boxed _ _) (boxed _ _))⟩, up2 (boxed _ _) (boxed _ _), by simp⟩
  rw [← HN.out]
  have := Has.fresh (w.alloc (.cells #[.slice a n c, .int .i64 al, .int .i64 un, .int .i64 me, .int .i64 fi, .int .i64 la] 51)) 57 #[.slice a n c, .int .i64 al, .int .i64 un, .int .i64 me, .int .i64 fi, .int .i64 la, .slice none 0 0]
  rw [show (w.alloc (.cells #[.slice a n c, .int .i64 al, .int .i64 un, .int .i64 me, .int .i64 fi, .int .i64 la] 51)).heap.size = w.heap.size + 1 by simp] at this
  exact this
end
section
variable {w : World} {r : Nat} {d : Dt} {E : List Tl} {la : Option Addr} {lc : Nat} {tv : Value}
set_option maxRecDepth 100000 in
set_option maxHeartbeats 4000000 in
theorem qthr_rat (h : QgX w r d E la lc tv) (day : Int) (m0 : d.me = 0) : Calls Tryz.prog 78 #[.pointer (some ⟨r, 0, none⟩), .int .i64 day] w (ThrR w d E day) := by
  have hd := dtB_iff.1 h.fine.may
  have hv : thrV d E day = if day < d.fi then 0 else min day d.la - d.fi + 1 := by
    unfold thrV; rw [if_neg (by omega), if_neg (by omega), if_neg (by omega)]
    split
    · rfl
    · split <;> omega
  have hw : thrW d = d.la - d.fi + 1 := by unfold thrW; rw [if_neg (by omega), if_neg (by omega), if_neg (by omega)]
  unfold ThrR
  rw [hv, hw]
  have hh := h.has
  obtain ⟨ls, al, un, me, fi, la2⟩ := d
  simp only at hh hd m0 ⊢
  generalize ls.length = n at hh
  have c0 := hh.cell 0
  have c1 := hh.cell 1
  have c2 := hh.cell 2
  have c3 := hh.cell 3
  have c4 := hh.cell 4
  have c5 := hh.cell 5
  simp at c0 c1 c2 c3 c4 c5
  rw [m0] at c3
  have e1 : IntKind.i64.wrap (la2 - fi) = la2 - fi := IntWalk.i64_in _ (by omega)
  have e2 : IntKind.i64.wrap (la2 - fi + 1) = la2 - fi + 1 := IntWalk.i64_in _ (by omega)
  by_cases q : day < fi
  · rw [if_pos q]
    clear h hv hw hh hd m0
    go_enter Tryz.func78, Tryz.ntmps78
    go_wp2_with fail
    go_quiet (fail)
    go_wp2_with fail
    go_ret2
    exact ⟨rfl, blw (boxed _ _) _⟩
  · rw [if_neg q]
    have q' : fi ≤ day := by omega
    have e3 : IntKind.i64.wrap (min day la2 - fi) = min day la2 - fi := IntWalk.i64_in _ (by omega)
    have e4 : IntKind.i64.wrap (min day la2 - fi + 1) = min day la2 - fi + 1 := IntWalk.i64_in _ (by omega)
    clear h hv hw hh hd m0 q
    go_enter Tryz.func78, Tryz.ntmps78
    go_wp2_with fail
    go_quiet (fail)
    go_wp2_with fail
    go_ret2
    exact ⟨rfl, blw (boxed _ _) _⟩
set_option maxRecDepth 100000 in
set_option maxHeartbeats 4000000 in
theorem qthr_point (h : QgX w r d E la lc tv) (day : Int) (m1 : d.me = 1) : Calls Tryz.prog 78 #[.pointer (some ⟨r, 0, none⟩), .int .i64 day] w (ThrR w d E day) := by
  have hv : thrV d E day = if day < d.fi then 0 else 1 := by
    unfold thrV; rw [if_neg (by omega), if_neg (by omega), if_pos m1]
  have hw : thrW d = 1 := by unfold thrW; rw [if_neg (by omega), if_neg (by omega), if_pos m1]
  unfold ThrR
  rw [hv, hw]
  have hh := h.has
  obtain ⟨ls, al, un, me, fi, la2⟩ := d
  simp only at hh m1 ⊢
  generalize ls.length = n at hh
  have c0 := hh.cell 0
  have c1 := hh.cell 1
  have c2 := hh.cell 2
  have c3 := hh.cell 3
  have c4 := hh.cell 4
  have c5 := hh.cell 5
  simp at c0 c1 c2 c3 c4 c5
  rw [m1] at c3
  by_cases q : day < fi
  · rw [if_pos q]
    clear h hv hw hh m1
    go_enter Tryz.func78, Tryz.ntmps78
    go_wp2_with fail
    go_ret2
    exact ⟨rfl, boxed _ _⟩
  · rw [if_neg q]
    have q' : fi ≤ day := by omega
    clear h hv hw hh m1 q
    go_enter Tryz.func78, Tryz.ntmps78
    go_wp2_with fail
    go_ret2
    exact ⟨rfl, boxed _ _⟩
set_option maxRecDepth 100000 in
set_option maxHeartbeats 8000000 in
theorem qthr_told (h : QgX w r d E la lc tv) (day : Int) (m2 : d.me = 2 ∨ d.me = 3) : Calls Tryz.prog 78 #[.pointer (some ⟨r, 0, none⟩), .int .i64 day] w (ThrR w d E day) := by
  have HFine := Lib.hid h.fine
  obtain ⟨ta, tc, rfl, hrow⟩ := h.row
  have HR := Lib.hid hrow
  have hlen := h.fine.len
  have HV2 : Hid (d.me = 2 → thrV d E day = thrM day E ∧ thrW d = 10000) := Lib.hid fun q => by unfold thrV thrW; rw [if_pos q, if_pos q]; exact ⟨rfl, rfl⟩
  have HV3 : Hid (d.me = 3 → thrV d E day = min (thrS day E) d.un ∧ thrW d = d.un) := Lib.hid fun q => by unfold thrV thrW; rw [if_neg (by omega), if_pos q, if_neg (by omega), if_pos q]; exact ⟨rfl, rfl⟩
  unfold ThrR
  obtain ⟨V1, hV1⟩ : ∃ V1, V1 = thrV d E day := ⟨_, rfl⟩
  obtain ⟨V2, hV2⟩ : ∃ V2, V2 = thrW d := ⟨_, rfl⟩
  rw [← hV1, ← hV2] at HV2 HV3
  rw [← hV1, ← hV2]
  have hh := h.has
  obtain ⟨D, hD⟩ : ∃ D, D = d := ⟨_, rfl⟩
  rw [← hD] at HFine
  obtain ⟨ls, al, un, me, fi, la2⟩ := d
  simp only at hh m2 HV2 HV3 ⊢
  generalize ls.length = n0 at hh
  obtain ⟨n, hn⟩ : ∃ n, n = E.length := ⟨_, rfl⟩
  have HN := Lib.hid hn
  rw [← hn] at hh hlen
  have c0 := hh.cell 0
  have c1 := hh.cell 1
  have c2 := hh.cell 2
  have c3 := hh.cell 3
  have c4 := hh.cell 4
  have c5 := hh.cell 5
  have c6 := hh.cell 6
  simp at c0 c1 c2 c3 c4 c5 c6
  have m0' : (me == 0) = false := by simp; omega
  have m1' : (me == 1) = false := by simp; omega
  have HM := Lib.hid m2
  have HC6 := Lib.hid c6
  clear h hrow hh hn m2 hV1 hV2 hD c6
  go_enter Tryz.func78, Tryz.ntmps78
  go_wp2_with fail
  obtain ⟨W0, hW0⟩ : ∃ W0, W0 = w.alloc (.cells #[.slice la n0 lc, .int .i64 al, .int .i64 un, .int .i64 me, .int .i64 fi, .int .i64 la2] 51) := ⟨_, rfl⟩
  have HB0 : Hid (Below w.heap.size w W0) := by rw [hW0]; exact Lib.hid (boxed _ _)
  have HD0 : Hid (Has W0 w.heap.size 51 #[.slice la n0 lc, .int .i64 al, .int .i64 un, .int .i64 me, .int .i64 fi, .int .i64 la2]) := by rw [hW0]; exact Lib.hid (Has.fresh _ _ _)
  rw [← hW0]
  have c6 := kcell HB0.out HC6.out
  have HR0 := Lib.hid (HR.out.up HB0.out)
  clear hW0 c0 c1 c2 c3 c4 c5 m0' m1'
  go_loopw [8, 9, 10] (fun m s i wr => ∃ k : Nat, k ≤ n ∧ i = .int .i64 (k : Int) ∧ m = .int .i64 (thrM day (E.take k)) ∧ s = .int .i64 (thrS day (E.take k)) ∧ wr = W0) (fun _ _ i _ => n - (intOf i).toNat)
  case atStart => exact ⟨0, Nat.zero_le _, rfl, rfl, rfl, rfl⟩
  case round =>
    obtain ⟨k, hk, rfl, rfl, rfl, rfl⟩ := hrel
    by_cases hlt : k < n
    · obtain ⟨x, hx⟩ : ∃ x, E[k]? = some x := ⟨E[k]'(by rw [← HN.out]; exact hlt), List.getElem?_eq_getElem _⟩
      obtain ⟨b, o, rfl, z0, z1⟩ := tl_at HR0.out hx
      have hsm : thrM day (E.take (k + 1)) = max (thrM day (E.take k)) (if x.1 ≤ day then x.2 else 0) := by
        have h0 := thrM_nn day (E.take k)
        rw [List.take_add_one, hx, thrM_app]
        simp only [Option.toList, thrM]
        omega
      have hss : thrS day (E.take (k + 1)) = thrS day (E.take k) + (if x.1 ≤ day then x.2 else 0) := by
        rw [List.take_add_one, hx, thrS_app]
        simp only [Option.toList, thrS]
        omega
      have hE : ∀ j, FineT D (E.take j) := fun j => by
        have h1 := HFine.out
        rw [← List.take_append_drop j E] at h1
        exact h1.front
      have b1 := thrS_bd day (hE (k + 1)).ok
      have s1 := (hE (k + 1)).sum
      have h0 := thrM_nn day (E.take k)
      have e1 : IntKind.i64.wrap ((k : Int) + 1) = (k : Int) + 1 := IntWalk.i64_in _ (by omega)
      have i0 : (0 : Int) ≤ (k : Int) := by omega
      have i1 : (k : Int) < (n : Int) := by omega
      obtain ⟨M, hM⟩ : ∃ M, M = thrM day (E.take k) := ⟨_, rfl⟩
      obtain ⟨S, hS⟩ : ∃ S, S = thrS day (E.take k) := ⟨_, rfl⟩
      rw [← hM] at h0 hsm ⊢
      rw [← hS] at hss ⊢
      obtain ⟨X, Y⟩ := x
      simp only at z0 z1 hsm hss
      have HSm := Lib.hid hsm
      have HSs := Lib.hid hss
      by_cases q : X ≤ day
      · have e2 : IntKind.i64.wrap (S + Y) = S + Y := IntWalk.i64_in _ (by rw [hss, if_pos q] at b1; omega)
        clear hx hsm hss hE b1 s1 hM hS
        go_wp2_with fail
        exact ⟨⟨k + 1, by omega, by go_num, by rw [HSm.out, if_pos q], by rw [HSs.out, if_pos q], trivial⟩, by simp [intOf]; omega⟩
      · clear hx hsm hss hE b1 s1 hM hS
        go_wp2_with fail
        exact ⟨⟨k + 1, by omega, by go_num, by rw [HSm.out, if_neg q]; congr 1; omega, by rw [HSs.out, if_neg q]; congr 1; omega, trivial⟩, by simp [intOf]; omega⟩
    · obtain rfl : k = n := by omega
      have ht : E.take k = E := by rw [HN.out, List.take_length]
      rw [ht]
      clear ht
      have d2 := HD0.out.cell 2
      have d3 := HD0.out.cell 3
      simp at d2 d3
      rcases HM.out with q | q
      · obtain ⟨e1, e2⟩ := HV2.out q
        rw [q] at d3
        have E1 := Lib.hid e1
        have E2 := Lib.hid e2
        clear e1 e2
        go_wp2_with fail
        go_ret2
        exact ⟨by rw [E1.out, E2.out]; rfl, HB0.out⟩
      · obtain ⟨e1, e2⟩ := HV3.out q
        have E1 := Lib.hid e1
        have E2 := Lib.hid e2
        rw [q] at d3
        generalize thrS day E = S at E1
        clear e1 e2
        go_wp2_with fail
        go_region
        all_goals
          go_wp2_with fail
          go_ret2
          exact ⟨by rw [E1.out, E2.out]; rfl, HB0.out.drew⟩
theorem qthr_any (h : Qg w r d E) (day : Int) : Calls Tryz.prog 78 #[.pointer (some ⟨r, 0, none⟩), .int .i64 day] w (ThrR w d E day) := by
  obtain ⟨la, lc, tv, h⟩ := h
  have hd := dtB_iff.1 h.fine.may
  by_cases m0 : d.me = 0
  · exact qthr_rat h day m0
  · by_cases m1 : d.me = 1
    · exact qthr_point h day m1
    · exact qthr_told h day (by omega)
end
end Go.Proofs.YtklaonoekmhakaaGreat
