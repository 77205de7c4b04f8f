/- owed. -/
import Derived.Test.YtklaonoekmhakaaGreatDuF
namespace Go.Proofs.YtklaonoekmhakaaGreat
open Go.RowKit

/-- the first ones' sums, days -/
def alT (S : Bs) (l : List Ln) (d : Int) (ls : List Nat) : Int := sumD (fun k => aloV S (lnAt l k) d) ls
def unT (l : List Ln) (ls : List Nat) : Int := sumD (fun k => (lnAt l k).un) ls
def miT (l : List Ln) (i : Nat) (ls : List Nat) : Int := minD (fun k => (lnAt l k).fi) i ls
def maT (l : List Ln) (i : Nat) (ls : List Nat) : Int := maxD (fun k => (lnAt l k).la) i ls
theorem miT_snoc (l : List Ln) (i : Nat) (ls : List Nat) (k : Nat) : miT l i (ls ++ [k]) = min (miT l i ls) (lnAt l k).fi := by
  unfold miT minD; rw [List.foldl_append]; rfl
theorem maT_snoc (l : List Ln) (i : Nat) (ls : List Nat) (k : Nat) : maT l i (ls ++ [k]) = max (maT l i ls) (lnAt l k).la := by
  unfold maT maxD; rw [List.foldl_append]; rfl
def zeroD : Value := .agg #[.slice none 0 0, .int .i64 0, .int .i64 0, .int .i64 0, .int .i64 0, .int .i64 0]
/-- what owed answers -/
def OweR (w : World) (S : Bs) (l : List Ln) (d : Int) (i : Nat) (x : NsX) (e : Ending) (w' : World) : Prop :=
  e = .returned (.tuple #[if owE S l d x.l 0 0 = 0 then (⟨x.a, x.cap, duOf S l d i x.l⟩ : DuX).val else zeroD, .int .i64 (owE S l d x.l 0 0)]) ∧ Below w.heap.size w w'
/-- behind j of the lines -/
structure OwJ (wp wr : World) (S : Bs) (l : List Ln) (d : Int) (i : Nat) (x : NsX) (j : Nat) (E : Int) : Prop where
  bel : Below wp.heap.size wp wr
  has : Has wr wp.heap.size 51 #[.slice x.a x.l.length x.cap, .int .i64 (alT S l d (x.l.take j)), .int .i64 (unT l (x.l.take j)), .int .i64 (imAt S (lnAt l i)).met, .int .i64 (miT l i (x.l.take j)), .int .i64 (maT l i (x.l.take j))]
  am : Am (alT S l d (x.l.take j)) ∧ Am (unT l (x.l.take j))
  owe : owE S l d (x.l.drop j) (alT S l d (x.l.take j)) (unT l (x.l.take j)) = E
theorem aloV_am (S : Bs) (x : Ln) (d : Int) : Am (aloV S x d) := by
  unfold aloV tellV Am
  split
  · omega
  · split
    · omega
    · split <;> omega
theorem putE_zero {S : Bs} {x : Ln} {d al un : Int} (h : putE S x d al un = 0) : Am (al + aloV S x d) ∧ Am (un + x.un) := by
  unfold putE at h
  split at h
  · rename_i q; exact absurd h q
  · split at h
    · rename_i q; exact absurd h q
    · rename_i q
      have q : tellE (al + aloV S x d) = 0 := by simpa using q
      rw [tellE_du] at q h
      have h1 : am64 (al + aloV S x d) = true := by
        by_cases z : am64 (al + aloV S x d) = true
        · exact z
        · rw [if_neg z] at q; cases q
      have h2 : am64 (un + x.un) = true := by
        by_cases z : am64 (un + x.un) = true
        · exact z
        · rw [if_neg z] at h; cases h
      exact ⟨am64_iff.1 h1, am64_iff.1 h2⟩
section
variable {wp wr : World} {S : Bs} {l : List Ln} {d : Int} {i : Nat} {x : NsX} {j : Nat} {E : Int}
theorem OwJ.bad (h : OwJ wp wr S l d i x j E) {k : Nat} (hk : x.l[j]? = some k) (hp : putE S (lnAt l k) d (alT S l d (x.l.take j)) (unT l (x.l.take j)) ≠ 0) : E = putE S (lnAt l k) d (alT S l d (x.l.take j)) (unT l (x.l.take j)) := by
  have := h.owe
  rw [drop_cons' hk, owE, if_pos hp] at this
  exact this.symm
theorem OwJ.more (h : OwJ wp wr S l d i x j E) {k : Nat} (hk : x.l[j]? = some k) (hp : putE S (lnAt l k) d (alT S l d (x.l.take j)) (unT l (x.l.take j)) = 0) {w' : World} (hb : Below wp.heap.size wp w')
    (hh : Has w' wp.heap.size 51 #[.slice x.a x.l.length x.cap, .int .i64 (alT S l d (x.l.take j) + aloV S (lnAt l k) d), .int .i64 (unT l (x.l.take j) + (lnAt l k).un), .int .i64 (imAt S (lnAt l i)).met, .int .i64 (min (miT l i (x.l.take j)) (lnAt l k).fi), .int .i64 (max (maT l i (x.l.take j)) (lnAt l k).la)]) : OwJ wp w' S l d i x (j + 1) E := by
  have e1 : alT S l d (x.l.take (j + 1)) = alT S l d (x.l.take j) + aloV S (lnAt l k) d := by rw [take_snoc hk]; exact sumD_snoc _ _ _
  have e2 : unT l (x.l.take (j + 1)) = unT l (x.l.take j) + (lnAt l k).un := by rw [take_snoc hk]; exact sumD_snoc _ _ _
  have e3 : miT l i (x.l.take (j + 1)) = min (miT l i (x.l.take j)) (lnAt l k).fi := by rw [take_snoc hk, miT_snoc]
  have e4 : maT l i (x.l.take (j + 1)) = max (maT l i (x.l.take j)) (lnAt l k).la := by rw [take_snoc hk, maT_snoc]
  refine ⟨hb, ?_, ?_, ?_⟩
  · rw [e1, e2, e3, e4]; exact hh
  · rw [e1, e2]; exact putE_zero hp
  · rw [e1, e2]
    have := h.owe
    rw [drop_cons' hk, owE, if_neg (by rw [hp]; simp)] at this
    exact this
end
section
variable {w : World} {p r : Nat} {S : Bs}
set_option maxRecDepth 100000 in
set_option maxHeartbeats 1000000 in
theorem owed_any (a : Option Addr) (n cap : Nat) (l : List Ln) (hn : l.length = n) (h : Bk w p r S) (hl : LnA w a l) (hall : ∀ x ∈ l, hasB S x.it = true ∧ Am x.un) (x : NsX) (i : Nat) (hx : NsA w x.a x.l) (hi : x.l[0]? = some i) (hlt : ∀ k ∈ x.l, k < n) (hm : x.l.length ≤ 100) (d : Int) :
    Calls Tryz.prog 100 #[.pointer (some ⟨p, 0, none⟩), .slice a n cap, x.val, .int .i64 d] w (OweR w S l d i x) := by
  have HK := Lib.hid h
  have HL := Lib.hid hl
  have HN := Lib.hid hn
  have HNs := Lib.hid hx
  have HI := Lib.hid hi
  have HLt := Lib.hid hlt
  have HAll := Lib.hid hall
  have hin := hlt i (List.mem_of_getElem? hi)
  obtain ⟨y, hy⟩ : ∃ y, l[i]? = some y := ⟨l[i]'(by omega), List.getElem?_eq_getElem _⟩
  have hy1 := hall y (List.mem_of_getElem? hy)
  have HIt := Lib.hid (fun (W : World) (hb : Below w.heap.size w W) => item_any y.it (h.up hb))
  unfold ItmR at HIt
  rw [itV_im hy1.1, hy1.1] at HIt
  have hly : lnAt l i = y := lnAt_some hy
  obtain ⟨m, hmm⟩ : ∃ m, m = x.l.length := ⟨_, rfl⟩
  have hm1 : 0 < m := by rw [hmm]; exact (List.getElem?_eq_some_iff.1 hi).1
  obtain ⟨pb, po, hpa, p0⟩ := ns_at hx hi
  obtain ⟨b, o, ha, c0, c1, c2, c3, c4⟩ := ln_at hl hy
  subst ha
  unfold NsX.val
  rw [hpa, ← hmm]
  have HM := Lib.hid hmm
  have hm100 : m ≤ 100 := by omega
  have HPa := Lib.hid hpa
  have hi0 : (0 : Int) ≤ (i : Int) := by omega
  have HY := Lib.hid hly
  rw [Nat.add_zero] at p0
  obtain ⟨Z, hZ⟩ : ∃ Z : Array Value, Z = #[.slice none 0 0, .int .i64 0, .int .i64 0, .int .i64 0, .int .i64 0, .int .i64 0] := ⟨_, rfl⟩
  have hbx : Below w.heap.size w (w.alloc (.cells Z 51)) := boxed _ _
  have HR0 := Lib.hid (Has.fresh w 51 Z)
  rw [hZ] at hbx HR0
  have q0 := kcell hbx p0
  have e0 := kcell hbx c0
  have e1 := kcell hbx c1
  have e2 := kcell hbx c2
  have e3 := kcell hbx c3
  have e4 := kcell hbx c4
  clear h hl hn hx hi hlt hall hy1 hy hly hmm hpa p0 c0 c1 c2 c3 c4 hbx hZ Z
  unfold Im.val at HIt
  go_enter Tryz.func100, Tryz.ntmps100
  go_wp2_with fail
  refine (HIt.out _ (up2 (boxed _ _) (boxed _ _))).mono ?_
  rintro e w1 ⟨rfl, hb1⟩
  obtain ⟨W0, hW0⟩ : ∃ W0, W0 = w.alloc (.cells #[.slice none 0 0, .int .i64 0, .int .i64 0, .int .i64 0, .int .i64 0, .int .i64 0] 51) := ⟨_, rfl⟩
  rw [← hW0] at hb1 HR0
  have hX := (Has.fresh W0 74 #[.int .i64 y.it, .int .i64 y.un, .int .i64 y.ch, .int .i64 y.fi, .int .i64 y.la]).up hb1
  have HX := Lib.hid hX
  have HR1 := Lib.hid ((HR0.out.up (boxed _ _)).up hb1)
  have HB1 : Hid (Below w.heap.size w w1) := by rw [hW0] at hb1; exact up2 (up2 (boxed _ _) (boxed _ _)) hb1
  have hs0 : W0.heap.size = w.heap.size + 1 := by rw [hW0]; simp
  rw [hs0] at HX
  clear hb1 hW0 hX
  have x3 : w1.cell? ⟨w.heap.size + 1, 3, none⟩ = some (.int .i64 y.fi) := HX.out.cell 3
  have x4 : w1.cell? ⟨w.heap.size + 1, 4, none⟩ = some (.int .i64 y.la) := HX.out.cell 4
  have xz := World.block_lt_of_cell? _ _ x3
  go_wp2_with fail
  obtain ⟨wp, hwp⟩ : ∃ wp, wp = w1.alloc (.cells #[.int .i64 (imAt S y).tag, .int .i64 (imAt S y).grp, .int .i64 (imAt S y).met, .int .i64 (imAt S y).pri] 72) := ⟨_, rfl⟩
  have hws : wp.heap.size = w1.heap.size + 1 := by rw [hwp]; simp
  rw [← hwp, ← hws]
  have HBp : Hid (Below w.heap.size w wp) := by rw [hwp]; exact up2 HB1.out (boxed _ _)
  have HRp : Hid (Has wp w.heap.size 51 #[.slice none 0 0, .int .i64 0, .int .i64 0, .int .i64 0, .int .i64 0, .int .i64 0]) := by rw [hwp]; exact HR1.out.up (boxed _ _)
  obtain ⟨E, hE⟩ : ∃ E, E = owE S l d x.l 0 0 := ⟨_, rfl⟩
  have HE := Lib.hid hE
  clear x3 x4 xz hwp hE q0 e0 e1 e2 e3 e4 hws hs0 HR0 HIt HX HR1 HB1 W0
  go_loopw [40] (fun v40 wr => ∃ j : Nat, j ≤ m ∧ v40 = .int .i64 (j : Int) ∧ OwJ wp wr S l d i x j E) (fun v40 _ => m - (intOf v40).toNat)
  case atStart =>
    refine ⟨0, Nat.zero_le _, rfl, boxed _ _, ?_, ⟨by show Am 0; exact am_small (by decide) (by decide), by show Am 0; exact am_small (by decide) (by decide)⟩, HE.out.symm⟩
    have := Has.fresh wp 51 #[.slice (some ⟨pb, po, none⟩) m x.cap, .int .i64 0, .int .i64 0, .int .i64 (imAt S y).met, .int .i64 y.fi, .int .i64 y.la]
    rw [HPa.out, ← HM.out, HY.out]
    show Has _ _ _ #[_, _, _, _, .int .i64 (lnAt l i).fi, .int .i64 (lnAt l i).la]
    rw [HY.out]
    exact this
  case round =>
    obtain ⟨j, hj, rfl, hJ⟩ := hrel
    have HJ := Lib.hid hJ
    have HBr := Lib.hid (up2 HBp.out hJ.bel)
    have HRr := Lib.hid (HRp.out.up hJ.bel)
    clear hJ
    by_cases hjm : j < m
    · obtain ⟨k, hk⟩ : ∃ k, x.l[j]? = some k := ⟨x.l[j]'(by rw [← HM.out]; exact hjm), List.getElem?_eq_getElem _⟩
      have hkn : k < n := HLt.out k (List.mem_of_getElem? hk)
      obtain ⟨z, hz⟩ : ∃ z, l[k]? = some z := ⟨l[k]'(by rw [HN.out]; exact hkn), List.getElem?_eq_getElem _⟩
      obtain ⟨pb', po', hpa', p0⟩ := ns_at (HNs.out.up HBr.out) hk
      rw [HPa.out] at hpa'
      obtain ⟨rfl, rfl⟩ : pb = pb' ∧ po = po' := by injection hpa' with q; injection q with q1 q2; exact ⟨q1, q2⟩
      obtain ⟨b', o', hb', c0, c1, c2, c3, c4⟩ := ln_at (HL.out.up HBr.out) hz
      obtain ⟨rfl, rfl⟩ : b = b' ∧ o = o' := by injection hb' with q; injection q with q1 q2; exact ⟨q1, q2⟩
      have hzl : lnAt l k = z := lnAt_some hz
      have hput := put_anyD z d (HK.out.up HBp.out) HJ.out.bel (Nat.le_refl _) HJ.out.has HJ.out.am.1 HJ.out.am.2 (HAll.out z (List.mem_of_getElem? hz)).2 (aloV_am S z d)
      unfold Ln.val at hput
      have HPut := Lib.hid hput
      have HKk := Lib.hid hk
      have HZl := Lib.hid hzl
      have e1 : IntKind.i64.wrap ((j : Int) + 1) = (j : Int) + 1 := IntWalk.i64_in _ (by omega)
      have hk0 : (0 : Int) ≤ (k : Int) := by omega
      clear hput hk hzl hz hpa' hb'
      go_wp2_with fail
      refine HPut.out.mono ?_
      rintro e w2 ⟨rfl, hb2, hs2, hh2⟩
      have HB2 := Lib.hid hb2
      have HH2 := Lib.hid hh2
      clear hb2 hh2 p0 c0 c1 c2 c3 c4
      obtain ⟨PE, hPE⟩ : ∃ PE, PE = putE S z d (alT S l d (x.l.take j)) (unT l (x.l.take j)) := ⟨_, rfl⟩
      rw [← hPE]
      have HPE := Lib.hid hPE
      clear hPE
      by_cases q : PE = 0
      · have hJ2 := HJ.out.more HKk.out (by rw [HZl.out, ← HPE.out]; exact q) HB2.out (by rw [HZl.out]; exact HH2.out (HPE.out.symm.trans q))
        have HJ2 := Lib.hid hJ2
        clear hJ2
        subst q
        go_wp2_with fail
        exact ⟨⟨j + 1, by omega, by go_num, HJ2.out⟩, by simp [intOf]; omega⟩
      · have hne : (PE != 0) = true := by simpa using q
        have hEP : E = PE := by
          rw [HPE.out, ← HZl.out]
          exact HJ.out.bad HKk.out (by rw [HZl.out, ← HPE.out]; exact q)
        have hR2 := HRp.out.up HB2.out
        have r0 : w2.cell? ⟨w.heap.size, 0, none⟩ = some (.slice none 0 0) := hR2.cell 0
        have r1 : w2.cell? ⟨w.heap.size, 1, none⟩ = some (.int .i64 0) := hR2.cell 1
        have r2 : w2.cell? ⟨w.heap.size, 2, none⟩ = some (.int .i64 0) := hR2.cell 2
        have r3 : w2.cell? ⟨w.heap.size, 3, none⟩ = some (.int .i64 0) := hR2.cell 3
        have r4 : w2.cell? ⟨w.heap.size, 4, none⟩ = some (.int .i64 0) := hR2.cell 4
        have r5 : w2.cell? ⟨w.heap.size, 5, none⟩ = some (.int .i64 0) := hR2.cell 5
        have f0 := hR2.free 0
        have f1 := hR2.free 1
        have f2 := hR2.free 2
        have f3 := hR2.free 3
        have f4 := hR2.free 4
        have f5 := hR2.free 5
        go_wp2_with fail
        have hOE : owE S l d x.l 0 0 = PE := HE.out.symm.trans hEP
        refine bodyPost_ret (v := .tuple #[zeroD, .int .i64 PE]) (by simp [results, Tryz.results100, go_sem, r0, r1, r2, r3, r4, r5, zeroD]) rfl ⟨?_, ?_⟩
        · rw [hOE, if_neg q]
        · exact ((((((up2 HBp.out HB2.out).setCell (Nat.le_refl _) _).setCell (Nat.le_refl _) _).setCell (Nat.le_refl _) _).setCell (Nat.le_refl _) _).setCell (Nat.le_refl _) _).setCell (Nat.le_refl _) _
    · obtain rfl : j = m := by omega
      have hD : Has wr wp.heap.size 51 #[.slice x.a x.l.length x.cap, .int .i64 (duOf S l d i x.l).al, .int .i64 (duOf S l d i x.l).un, .int .i64 (duOf S l d i x.l).me, .int .i64 (duOf S l d i x.l).fi, .int .i64 (duOf S l d i x.l).la] := by
        have := HJ.out.has
        rw [HM.out, List.take_length] at this
        exact this
      have hE0 : owE S l d x.l 0 0 = 0 := by
        have := HJ.out.owe
        rw [HM.out, List.drop_length] at this
        exact HE.out.symm.trans this.symm
      rw [HPa.out, ← HM.out] at hD
      have HE0 := Lib.hid hE0
      obtain ⟨D, hDD⟩ : ∃ D, D = duOf S l d i x.l := ⟨_, rfl⟩
      have hls : D.ls = x.l := by rw [hDD]; rfl
      have HV : Hid ((⟨x.a, x.cap, duOf S l d i x.l⟩ : DuX).val = .agg #[.slice (some ⟨pb, po, none⟩) j x.cap, .int .i64 D.al, .int .i64 D.un, .int .i64 D.me, .int .i64 D.fi, .int .i64 D.la]) := by
        rw [← hDD]
        unfold DuX.val
        rw [hls, HPa.out, ← HM.out]
        exact Lib.hid rfl
      rw [← hDD] at hD
      clear hDD hE0 hls
      have v0 : wr.cell? ⟨wp.heap.size, 0, none⟩ = some (.slice (some ⟨pb, po, none⟩) j x.cap) := hD.cell 0
      have v1 : wr.cell? ⟨wp.heap.size, 1, none⟩ = some (.int .i64 D.al) := hD.cell 1
      have v2 : wr.cell? ⟨wp.heap.size, 2, none⟩ = some (.int .i64 D.un) := hD.cell 2
      have v3 : wr.cell? ⟨wp.heap.size, 3, none⟩ = some (.int .i64 D.me) := hD.cell 3
      have v4 : wr.cell? ⟨wp.heap.size, 4, none⟩ = some (.int .i64 D.fi) := hD.cell 4
      have v5 : wr.cell? ⟨wp.heap.size, 5, none⟩ = some (.int .i64 D.la) := hD.cell 5
      have hR2 := HRr.out
      have r0 : wr.cell? ⟨w.heap.size, 0, none⟩ = some (.slice none 0 0) := hR2.cell 0
      have r1 : wr.cell? ⟨w.heap.size, 1, none⟩ = some (.int .i64 0) := hR2.cell 1
      have r2 : wr.cell? ⟨w.heap.size, 2, none⟩ = some (.int .i64 0) := hR2.cell 2
      have r3 : wr.cell? ⟨w.heap.size, 3, none⟩ = some (.int .i64 0) := hR2.cell 3
      have r4 : wr.cell? ⟨w.heap.size, 4, none⟩ = some (.int .i64 0) := hR2.cell 4
      have r5 : wr.cell? ⟨w.heap.size, 5, none⟩ = some (.int .i64 0) := hR2.cell 5
      have f0 := hR2.free 0
      have f1 := hR2.free 1
      have f2 := hR2.free 2
      have f3 := hR2.free 3
      have f4 := hR2.free 4
      have f5 := hR2.free 5
      go_wp2_with fail
      refine bodyPost_ret (v := .tuple #[.agg #[.slice (some ⟨pb, po, none⟩) j x.cap, .int .i64 D.al, .int .i64 D.un, .int .i64 D.me, .int .i64 D.fi, .int .i64 D.la], .int .i64 0]) (by simp [results, Tryz.results100, go_sem, r0, r1, r2, r3, r4, r5]) rfl ⟨by rw [HE0.out, if_pos rfl, HV.out], ?_⟩
      exact (((((HBr.out.setCell (Nat.le_refl _) _).setCell (Nat.le_refl _) _).setCell (Nat.le_refl _) _).setCell (Nat.le_refl _) _).setCell (Nat.le_refl _) _).setCell (Nat.le_refl _) _
end
end Go.Proofs.YtklaonoekmhakaaGreat

namespace Go.Proofs.YtklaonoekmhakaaGreat
open Go.RowKit

theorem infoDuty : (Tryz.prog.info? 51).map (fun i => (i.zero, i.size, i.bytes)) = some (some (.agg #[.slice none 0 0, .int .i64 0, .int .i64 0, .int .i64 0, .int .i64 0, .int .i64 0]), 6, 64) := by kernel_rfl
/-- what Find answers -/
def FindR (w : World) (S : Bs) (l : List Ln) (d : Int) (e : Ending) (w' : World) : Prop := ∃ a c X, e = .returned (.tuple #[.slice a X.length c, .int .i64 (findE S l d)]) ∧ X.map DuX.d = findV S l d ∧ DusA w' a X ∧ Below w.heap.size w w'
theorem find_no {w w' : World} {S : Bs} {l : List Ln} {d E : Int} (hE : findE S l d = E) (h0 : E ≠ 0) (hb : Below w.heap.size w w') : FindR w S l d (.returned (.tuple #[.slice none 0 0, .int .i64 E])) w' :=
  ⟨none, 0, [], by rw [hE]; rfl, by unfold findV; rw [if_neg (by rw [hE]; exact h0)]; rfl, ⟨.inl rfl, fun x hx => by cases hx⟩, hb⟩
/-- the obligation of a row of places -/
def dxOf (S : Bs) (l : List Ln) (d : Int) (x : NsX) : DuX := ⟨x.a, x.cap, duOf S l d (x.l.headD 0) x.l⟩
theorem dus_of {S : Bs} {l : List Ln} {d : Int} {X : List NsX} (h : X.map NsX.l = groups (dKey S l) l.length) : (X.map (dxOf S l d)).map DuX.d = duties S l d := by
  rw [List.map_map]
  have e : (DuX.d ∘ dxOf S l d) = (fun ls : List Nat => duOf S l d (ls.headD 0) ls) ∘ NsX.l := rfl
  rw [e, ← List.map_map, h]
  unfold groups duties
  rw [List.map_map]
  apply List.map_congr_left
  intro i hi
  obtain ⟨t, ht⟩ := mems_head hi
  show duOf S l d ((mems (dKey S l) l.length i).headD 0) (mems (dKey S l) l.length i) = duAt S l d i
  rw [duAt_of, ht]; rfl
theorem row_is {K : Nat → Kk} {n : Nat} {X : List NsX} (h : X.map NsX.l = groups K n) {t : Nat} {x : NsX} (hx : X[t]? = some x) : ∃ i ∈ fsts K n, x.l = mems K n i ∧ x.l[0]? = some i ∧ (∀ k ∈ x.l, k < n) ∧ x.l.length ≤ n ∧ x.l.headD 0 = i := by
  have h1 := congrArg (fun L => L[t]?) h
  simp only [groups, List.getElem?_map, hx, Option.map_some] at h1
  obtain ⟨i, hi, e⟩ := Option.map_eq_some_iff.1 h1.symm
  have him := List.mem_of_getElem? hi
  obtain ⟨u, hu⟩ := mems_head him
  refine ⟨i, him, e.symm, by rw [← e, hu]; rfl, fun k hk => ?_, ?_, by rw [← e, hu]; rfl⟩
  · rw [← e] at hk; exact (mem_mems.1 hk).1
  · rw [← e]
    have := List.length_filter_le (fun j => decide (K j = K i)) (List.range n)
    rw [List.length_range] at this; exact this
/-- what Find bears behind t obligations -/
structure FiS (w1 wr : World) (S : Bs) (l : List Ln) (d : Int) (X : List NsX) (t : Nat) (vd : Value) : Prop where
  own : OwL wr w1.heap.size [⟨51, 6, vd, t, ((X.take t).map (dxOf S l d)).flatMap DuX.cells⟩]
  fine : ∀ x ∈ X.take t, owE S l d x.l 0 0 = 0
  bel : Below w1.heap.size w1 wr
section
variable {w1 wr w' : World} {S : Bs} {l : List Ln} {d : Int} {X : List NsX} {t : Nat} {vd : Value}
theorem FiS.up (h : FiS w1 wr S l d X t vd) (q : Below wr.heap.size wr w') : FiS w1 w' S l d X t vd := ⟨h.own.up q, h.fine, up2 h.bel q⟩
theorem FiS.start (w1 : World) (S : Bs) (l : List Ln) (d : Int) (X : List NsX) : FiS w1 w1 S l d X 0 (.slice none 0 0) :=
  ⟨OwL.nils fun x hx => by rw [List.mem_singleton] at hx; subst hx; exact ⟨_, _, rfl⟩, fun x hx => by simp at hx, Below.refl _ _⟩
theorem FiS.more (h : FiS w1 wr S l d X t vd) {x : NsX} (hx : X[t]? = some x) (ht : t ≤ 1000) (h0 : owE S l d x.l 0 0 = 0) {y : Nat} (hy : Has wr y 51 (dxOf S l d x).cells.toArray) :
    ∃ v w5, (Builtin.append_ #[119, 119] 119 #[vd, .slice (some ⟨y, 0, none⟩) 1 1]).run Tryz.prog wr = .ok v w5 ∧ FiS w1 w5 S l d X (t + 1) v := by
  obtain ⟨v, w5, hr, ho, hb, _, _⟩ := h.own.app (i := 0) rfl (t := 119) (ty := 119) Tryz.underlying119 infoDuty rfl (Nat.zero_lt_succ _) (by decide) (dxOf S l d x).cells rfl (ad := ⟨y, 0, none⟩) (fun j u hu => by
    rw [addr_off, Nat.zero_add, hy.cell]
    exact (List.getElem?_toArray (xs := (dxOf S l d x).cells) (i := j)).trans hu) (fun u hu => by
      simp [DuX.cells] at hu
      rcases hu with rfl | rfl | rfl | rfl | rfl | rfl <;> rfl) (by simp only; omega) h.bel (Nat.le_refl _) h.bel.size
  refine ⟨v, w5, hr, ⟨?_, fun z hz => ?_, hb⟩⟩
  · rw [take_snoc hx, List.map_append, List.flatMap_append, List.map_singleton, List.flatMap_singleton]
    exact ho
  · rw [take_snoc hx] at hz
    rcases List.mem_append.1 hz with hz | hz
    · exact h.fine z hz
    · rw [List.mem_singleton.1 hz]; exact h0
end
/-- who comes to the end -/
theorem find_zero {S : Bs} {l : List Ln} {d : Int} (hd : 0 ≤ d) (hc : chkE S l = 0) {X : List NsX} (h : X.map NsX.l = groups (dKey S l) l.length) (hf : ∀ x ∈ X, dOver S l d x.l = false) : findE S l d = 0 := by
  unfold findE
  rw [if_neg (by omega), if_neg (by omega), duOver_any, if_neg]
  rw [List.any_eq_true]
  rintro ⟨i, hi, ho⟩
  have hm : mems (dKey S l) l.length i ∈ X.map NsX.l := by rw [h]; exact List.mem_map.2 ⟨i, hi, rfl⟩
  obtain ⟨x, hx, e⟩ := List.mem_map.1 hm
  have := hf x hx
  rw [e, ho] at this; cases this
theorem find_three {S : Bs} {l : List Ln} {d : Int} (hd : 0 ≤ d) (hc : chkE S l = 0) {i : Nat} (hi : i ∈ fsts (dKey S l) l.length) (ho : dOver S l d (mems (dKey S l) l.length i) = true) : findE S l d = 3 := by
  unfold findE
  rw [if_neg (by omega), if_neg (by omega), duOver_any, if_pos (List.any_eq_true.2 ⟨i, hi, ho⟩)]
theorem chk_zero {S : Bs} {l : List Ln} (h : chkE S l = 0) : l.length ≤ 12 ∧ ∀ x ∈ l, lnB S x = true := by
  unfold chkE at h
  split at h
  · cases h
  · split at h
    · cases h
    · split at h
      · rename_i h1 h2 h3
        exact ⟨by omega, List.all_eq_true.1 h3⟩
      · cases h
/-- prices are no less than 1 -/
theorem pri_pos {S : Bs} (F : FineB S) (x : Ln) (d : Int) : 0 ≤ priV S x.it d := by
  unfold priV
  split
  · obtain ⟨_, h | ⟨y, hy, _, _, h⟩, _⟩ := best_is S x.it d
    · rw [h]
      show 0 ≤ pri0 S x.it
      unfold pri0
      cases q : S.I[x.it.toNat]? with
      | none => simp
      | some m =>
        have hm := (F.items m (List.mem_of_getElem? q)).1
        simp only [imB, Bool.and_eq_true, decide_eq_true_eq] at hm
        simp only [Option.map_some, Option.getD_some]; omega
    · rw [h]; have := (F.am y hy).1; simp only; omega
  · exact Int.le_refl _
theorem lines_nn {S : Bs} (F : FineB S) {l : List Ln} (hall : ∀ x ∈ l, lnB S x = true) (d : Int) {k : Nat} (hk : k < l.length) : lnB S (lnAt l k) = true ∧ 0 ≤ aloV S (lnAt l k) d ∧ 0 ≤ (lnAt l k).un := by
  have e : lnAt l k = l[k] := lnAt_some (List.getElem?_eq_getElem hk)
  have h1 := hall l[k] (List.getElem_mem hk)
  rw [e]
  have h2 := (lnB_has h1).2
  exact ⟨h1, aloV_nn _ _ (Int.mul_nonneg (pri_pos F _ d) (by omega)), by omega⟩
end Go.Proofs.YtklaonoekmhakaaGreat

namespace Go.Proofs.YtklaonoekmhakaaGreat
open Go.RowKit

section
variable {w : World} {p r : Nat} {S : Bs}
set_option maxRecDepth 100000 in
set_option maxHeartbeats 1000000 in
theorem find_neg (a : Option Addr) (n cap : Nat) (l : List Ln) (d : Int) (hd : d < 0) : Calls Tryz.prog 66 #[.pointer (some ⟨p, 0, none⟩), .slice a n cap, .int .i64 d] w (FindR w S l d) := by
  have hE : findE S l d = 1 := by unfold findE; rw [if_pos hd]
  have HE := Lib.hid hE
  clear hE
  go_enter Tryz.func66, Tryz.ntmps66
  go_wp2_with fail
  go_ret2
  exact find_no HE.out (by decide) (Below.refl _ _)
set_option maxRecDepth 100000 in
set_option maxHeartbeats 1000000 in
theorem find_bad (a : Option Addr) (cap : Nat) (l : List Ln) (d : Int) (hd : 0 ≤ d) (h : Bk w p r S) (hl : LnA w a l) (hc : chkE S l ≠ 0) : Calls Tryz.prog 66 #[.pointer (some ⟨p, 0, none⟩), .slice a l.length cap, .int .i64 d] w (FindR w S l d) := by
  have hE : findE S l d = chkE S l := by unfold findE; rw [if_neg (by omega), if_pos hc]
  have HC := Lib.hid (check_any a cap l h hl)
  have HE := Lib.hid hE
  obtain ⟨c, hcc⟩ : ∃ c, c = chkE S l := ⟨_, rfl⟩
  rw [← hcc] at hc HC HE
  have HC0 := Lib.hid hc
  obtain ⟨n, hn⟩ : ∃ n, n = l.length := ⟨_, rfl⟩
  rw [← hn] at HC ⊢
  clear hE h hl hcc hn hc
  go_enter Tryz.func66, Tryz.ntmps66
  go_wp2_with fail
  refine HC.out.mono ?_
  rintro e w1 ⟨rfl, hb⟩
  have HB := Lib.hid hb
  have hne : (c != 0) = true := by simpa using HC0.out
  clear hb
  go_wp2_with fail
  go_ret2
  exact find_no HE.out HC0.out HB.out
set_option maxRecDepth 100000 in
set_option maxHeartbeats 2000000 in
theorem find_good (a : Option Addr) (cap : Nat) (l : List Ln) (d : Int) (hd : 0 ≤ d) (h : Bk w p r S) (hl : LnA w a l) (hc : chkE S l = 0) (hAm : ∀ x ∈ l, Am x.un) : Calls Tryz.prog 66 #[.pointer (some ⟨p, 0, none⟩), .slice a l.length cap, .int .i64 d] w (FindR w S l d) := by
  have HC := Lib.hid (check_any a cap l h hl)
  rw [hc] at HC
  obtain ⟨h12, hall⟩ := chk_zero hc
  have hF : FineB S := by obtain ⟨_, _, _, hb⟩ := h; exact hb.fine
  have HNn := Lib.hid (fun k (hk : k < l.length) => lines_nn hF hall d hk)
  have HTg := Lib.hid (fun (W : World) (hb : Below w.heap.size w W) => together_any a l.length cap l rfl (by omega) (h.up hb) (hl.up hb) hall)
  have HOw := Lib.hid (fun (W : World) (hb : Below w.heap.size w W) (x : NsX) (i : Nat) => owed_any (w := W) a l.length cap l rfl (h.up hb) (hl.up hb) (fun z hz => ⟨(lnB_has (hall z hz)).1, hAm z hz⟩) x i)
  have HCz := Lib.hid hc
  obtain ⟨n, hn⟩ : ∃ n, n = l.length := ⟨_, rfl⟩
  have HN := Lib.hid hn
  rw [← hn] at HC HTg HOw h12 ⊢
  clear h hl hc hAm hall hF hn
  go_enter Tryz.func66, Tryz.ntmps66
  go_wp2_with fail
  refine HC.out.mono ?_
  rintro e w1 ⟨rfl, hb⟩
  have HB1 := Lib.hid hb
  clear hb HC
  go_wp2_with fail
  refine (HTg.out _ HB1.out).mono ?_
  rintro e w2 ⟨a2, c2, X, rfl, hX, hR, hb⟩
  have HX := Lib.hid hX
  have HR := Lib.hid hR
  have HB2 := Lib.hid (up2 HB1.out hb)
  obtain ⟨m, hm⟩ : ∃ m, m = X.length := ⟨_, rfl⟩
  have hm12 : m ≤ 12 := by
    have h1 := congrArg List.length hX
    rw [List.length_map, groups_len] at h1
    have := keysTo_le (dKey S l) n
    omega
  rw [← hm]
  have HM := Lib.hid hm
  clear hb hX hR HTg HB1 hm
  go_wp2_with fail
  go_loopw [9, 30] (fun v9 v30 wr => ∃ t : Nat, t ≤ m ∧ v30 = .int .i64 (t : Int) ∧ FiS w2 wr S l d X t v9) (fun _ v30 _ => m - (intOf v30).toNat)
  case atStart => exact ⟨0, Nat.zero_le _, rfl, FiS.start _ _ _ _ _⟩
  case round =>
    obtain ⟨t, ht, rfl, hS⟩ := hrel
    have HS := Lib.hid hS
    have HBr := Lib.hid (up2 HB2.out hS.bel)
    clear hS
    by_cases htm : t < m
    · obtain ⟨x, hx⟩ : ∃ x, X[t]? = some x := ⟨X[t]'(by rw [← HM.out]; exact htm), List.getElem?_eq_getElem _⟩
      obtain ⟨i, hi, hxl, hx0, hxn, hxm, hxh⟩ := row_is HX.out hx
      obtain ⟨b, o, ha, c0⟩ := rows_at (HR.out.up HS.out.bel) hx
      subst ha
      have hns := (HR.out.up HS.out.bel).2 x (List.mem_of_getElem? hx)
      have hOw := HOw.out wr HBr.out x i hns hx0 hxn (by omega) d
      have hov := owE_over (S := S) (l := l) hd x.l (fun k hk => HNn.out k (by rw [← HN.out]; exact hxn k hk))
      have e1 : IntKind.i64.wrap ((t : Int) + 1) = (t : Int) + 1 := IntWalk.i64_in _ (by omega)
      unfold OweR at hOw
      obtain ⟨E, hE⟩ : ∃ E, E = owE S l d x.l 0 0 := ⟨_, rfl⟩
      rw [← hE] at hOw hov
      have HE := Lib.hid hE
      have HI := Lib.hid hi
      have HXl := Lib.hid hxl
      have HX0 := Lib.hid hxh
      have HOv := Lib.hid hov
      have HXx := Lib.hid hx
      unfold NsX.val at c0 hOw
      clear hE hi hxl hxh hov hx hns hx0 hxn hxm
      by_cases q : E = 0
      · rw [if_pos q, q] at hOw
        have hdx : (⟨x.a, x.cap, duOf S l d i x.l⟩ : DuX) = dxOf S l d x := by unfold dxOf; rw [HX0.out]
        rw [hdx] at hOw
        obtain ⟨y, hy⟩ : ∃ y, y = dxOf S l d x := ⟨_, rfl⟩
        rw [← hy] at hOw
        have HY := Lib.hid hy
        unfold DuX.val at hOw
        have HO := Lib.hid hOw
        clear hOw hdx hy
        go_wp2_with fail
        refine HO.out.mono ?_
        rintro e w3 ⟨rfl, hb3⟩
        have HS3 := Lib.hid (HS.out.up (up2 hb3 (boxed w3 (.cells #[.slice y.a y.d.ls.length y.cap, .int .i64 y.d.al, .int .i64 y.d.un, .int .i64 y.d.me, .int .i64 y.d.fi, .int .i64 y.d.la] 51))))
        obtain ⟨v5, w5, hr5, hS5⟩ := (HS3.out.up (boxed _ (.cells #[.slice y.a y.d.ls.length y.cap, .int .i64 y.d.al, .int .i64 y.d.un, .int .i64 y.d.me, .int .i64 y.d.fi, .int .i64 y.d.la] 51))).more HXx.out (by omega) (HE.out.symm.trans q) (y := w3.heap.size + 1) (by
          rw [← HY.out]
          have := Has.fresh (w3.alloc (.cells #[.slice y.a y.d.ls.length y.cap, .int .i64 y.d.al, .int .i64 y.d.un, .int .i64 y.d.me, .int .i64 y.d.fi, .int .i64 y.d.la] 51)) 51 #[.slice y.a y.d.ls.length y.cap, .int .i64 y.d.al, .int .i64 y.d.un, .int .i64 y.d.me, .int .i64 y.d.fi, .int .i64 y.d.la]
          rw [show (w3.alloc (.cells #[.slice y.a y.d.ls.length y.cap, .int .i64 y.d.al, .int .i64 y.d.un, .int .i64 y.d.me, .int .i64 y.d.fi, .int .i64 y.d.la] 51)).heap.size = w3.heap.size + 1 by simp] at this
          exact this)
        have H5 := Lib.hid hr5
        have HS5 := Lib.hid hS5
        clear hb3 hr5 hS5 c0
        go_wp2_with (first | (at_builtin; refine wpList_run (o := ⟨some 48, _, _, _, _, _⟩) rfl (.tmp 45) (.tmp 47) 119 rfl _ _ rfl rfl (S := fun u q => v5 = u ∧ w5 = q) ⟨v5, w5, H5.out, rfl, rfl⟩ ?_; rintro u5 q5 ⟨rfl, rfl⟩) | fail)
        exact ⟨⟨t + 1, by omega, by go_num, HS5.out⟩, by simp [intOf]; omega⟩
      · rw [if_neg q] at hOw
        unfold zeroD at hOw
        have HO := Lib.hid hOw
        have hov : dOver S l d x.l = true := by
          cases z : dOver S l d x.l with
          | true => rfl
          | false => have := HOv.out; rw [z, if_neg (by simp)] at this; exact absurd this q
        have hE3 : E = 3 := by have := HOv.out; rw [hov, if_pos rfl] at this; exact this
        have hF3 : findE S l d = 3 := find_three hd HCz.out (i := i) (by rw [← HN.out]; exact HI.out) (by rw [← HN.out, ← HXl.out]; exact hov)
        have HF3 := Lib.hid hF3
        rw [hE3] at HO
        clear hOw hov hF3 hE3
        go_wp2_with fail
        refine HO.out.mono ?_
        rintro e w3 ⟨rfl, hb3⟩
        have HB3 := Lib.hid (up2 HBr.out hb3)
        clear hb3 c0
        go_wp2_with fail
        go_ret2
        exact find_no HF3.out (by decide) (HB3.out.alloc HB3.out.size _)
    · obtain rfl : t = m := by omega
      obtain ⟨av, cv, hv, _⟩ := HS.out.own.form (i := 0) rfl
      have hv : u9 = .slice av t cv := hv
      subst hv
      go_wp2_with fail
      go_ret2
      have hall : ∀ x ∈ X, dOver S l d x.l = false := fun x hx => by
        obtain ⟨j, hj⟩ := List.getElem?_of_mem hx
        obtain ⟨i, hi, hxl, hx0, hxn, hxm, hxh⟩ := row_is HX.out hj
        have h1 := HS.out.fine x (by rw [HM.out, List.take_length]; exact hx)
        rw [owE_over hd x.l (fun k hk => HNn.out k (by rw [← HN.out]; exact hxn k hk))] at h1
        cases z : dOver S l d x.l with
        | false => rfl
        | true => rw [z, if_pos rfl] at h1; cases h1
      have hz := find_zero hd HCz.out (X := X) (by rw [← HN.out]; exact HX.out) hall
      have hown := HS.out.own
      rw [HM.out, List.take_length] at hown
      refine ⟨av, cv, X.map (dxOf S l d), by rw [hz, List.length_map, ← HM.out]; rfl, ?_, ⟨(OwL.rws du_len hown (i := 0) rfl (by rw [List.length_map])).1, fun y hy => ?_⟩, HBr.out⟩
      · unfold findV
        rw [if_pos hz]
        exact dus_of (by rw [← HN.out]; exact HX.out)
      · obtain ⟨x, hx, rfl⟩ := List.mem_map.1 hy
        exact (HR.out.up HS.out.bel).2 x hx
theorem find_any (a : Option Addr) (cap : Nat) (l : List Ln) (d : Int) (h : Bk w p r S) (hl : LnA w a l) (hAm : ∀ x ∈ l, Am x.un) : Calls Tryz.prog 66 #[.pointer (some ⟨p, 0, none⟩), .slice a l.length cap, .int .i64 d] w (FindR w S l d) := by
  by_cases hd : d < 0
  · exact find_neg a _ cap l d hd
  · by_cases hc : chkE S l = 0
    · exact find_good a cap l d (by omega) h hl hc hAm
    · exact find_bad a cap l d (by omega) h hl hc
end
end Go.Proofs.YtklaonoekmhakaaGreat
