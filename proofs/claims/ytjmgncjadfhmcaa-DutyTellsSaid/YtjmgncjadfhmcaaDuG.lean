/- owed. -/
import Derived.Test.YtjmgncjadfhmcaaDuF
namespace Go.Proofs.Ytjmgncjadfhmcaa
open Go.RowKit

/-- the first ones' sums, days -/
def alT (S : Bs) (l : List Ln) (d : Int) (ls : List Nat) : Int := sumN (fun k => aloV S (lnAt l k) d) ls
def unT (l : List Ln) (ls : List Nat) : Int := sumN (fun k => (lnAt l k).un) ls
def miT (l : List Ln) (i : Nat) (ls : List Nat) : Int := minN (fun k => (lnAt l k).fi) i ls
def maT (l : List Ln) (i : Nat) (ls : List Nat) : Int := maxN (fun k => (lnAt l k).la) i ls
theorem miT_snoc (l : List Ln) (i : Nat) (ls : List Nat) (k : Nat) : miT l i (ls ++ [k]) = min (miT l i ls) (lnAt l k).fi := by
  unfold miT minN; rw [List.foldl_append]; rfl
theorem maT_snoc (l : List Ln) (i : Nat) (ls : List Nat) (k : Nat) : maT l i (ls ++ [k]) = max (maT l i ls) (lnAt l k).la := by
  unfold maT maxN; rw [List.foldl_append]; rfl
def zeroD : Value := .agg #[.slice none 0 0, .int .i64 0, .int .i64 0, .int .i64 0, .int .i64 0, .int .i64 0]
/-- what owed answers -/
def OweR (w : World) (S : Bs) (l : List Ln) (d : Int) (i : Nat) (x : NsX) (e : Ending) (w' : World) : Prop :=
  e = .returned (.tuple #[if owE S l d x.l 0 0 = 0 then (⟨x.a, x.cap, duOf S l d i x.l⟩ : DuX).val else zeroD, .int .i64 (owE S l d x.l 0 0)]) ∧ Below w.heap.size w w'
/-- behind j of the lines -/
structure OwJ (wp wr : World) (S : Bs) (l : List Ln) (d : Int) (i : Nat) (x : NsX) (j : Nat) (E : Int) : Prop where
  bel : Below wp.heap.size wp wr
  has : Has wr wp.heap.size 43 #[.slice x.a x.l.length x.cap, .int .i64 (alT S l d (x.l.take j)), .int .i64 (unT l (x.l.take j)), .int .i64 (imAt S (lnAt l i)).met, .int .i64 (miT l i (x.l.take j)), .int .i64 (maT l i (x.l.take j))]
  am : Am (alT S l d (x.l.take j)) ∧ Am (unT l (x.l.take j))
  owe : owE S l d (x.l.drop j) (alT S l d (x.l.take j)) (unT l (x.l.take j)) = E
theorem aloV_am (S : Bs) (x : Ln) (d : Int) : Am (aloV S x d) := by
  unfold aloV tellV Am
  split
  · omega
  · split
    · omega
    · split <;> omega
theorem putE_zero {S : Bs} {x : Ln} {d al un : Int} (h : putE S x d al un = 0) : Am (al + aloV S x d) ∧ Am (un + x.un) := by
  unfold putE at h
  split at h
  · rename_i q; exact absurd h q
  · split at h
    · rename_i q; exact absurd h q
    · rename_i q
      have q : tellE (al + aloV S x d) = 0 := by simpa using q
      rw [tellE_am] at q h
      have h1 : am64 (al + aloV S x d) = true := by
        by_cases z : am64 (al + aloV S x d) = true
        · exact z
        · rw [if_neg z] at q; cases q
      have h2 : am64 (un + x.un) = true := by
        by_cases z : am64 (un + x.un) = true
        · exact z
        · rw [if_neg z] at h; cases h
      exact ⟨am64_iff.1 h1, am64_iff.1 h2⟩
section
variable {wp wr : World} {S : Bs} {l : List Ln} {d : Int} {i : Nat} {x : NsX} {j : Nat} {E : Int}
theorem OwJ.bad (h : OwJ wp wr S l d i x j E) {k : Nat} (hk : x.l[j]? = some k) (hp : putE S (lnAt l k) d (alT S l d (x.l.take j)) (unT l (x.l.take j)) ≠ 0) : E = putE S (lnAt l k) d (alT S l d (x.l.take j)) (unT l (x.l.take j)) := by
  have := h.owe
  rw [drop_cons' hk, owE, if_pos hp] at this
  exact this.symm
theorem OwJ.more (h : OwJ wp wr S l d i x j E) {k : Nat} (hk : x.l[j]? = some k) (hp : putE S (lnAt l k) d (alT S l d (x.l.take j)) (unT l (x.l.take j)) = 0) {w' : World} (hb : Below wp.heap.size wp w')
    (hh : Has w' wp.heap.size 43 #[.slice x.a x.l.length x.cap, .int .i64 (alT S l d (x.l.take j) + aloV S (lnAt l k) d), .int .i64 (unT l (x.l.take j) + (lnAt l k).un), .int .i64 (imAt S (lnAt l i)).met, .int .i64 (min (miT l i (x.l.take j)) (lnAt l k).fi), .int .i64 (max (maT l i (x.l.take j)) (lnAt l k).la)]) : OwJ wp w' S l d i x (j + 1) E := by
  have e1 : alT S l d (x.l.take (j + 1)) = alT S l d (x.l.take j) + aloV S (lnAt l k) d := by rw [take_snoc hk]; exact sumN_snoc _ _ _
  have e2 : unT l (x.l.take (j + 1)) = unT l (x.l.take j) + (lnAt l k).un := by rw [take_snoc hk]; exact sumN_snoc _ _ _
  have e3 : miT l i (x.l.take (j + 1)) = min (miT l i (x.l.take j)) (lnAt l k).fi := by rw [take_snoc hk, miT_snoc]
  have e4 : maT l i (x.l.take (j + 1)) = max (maT l i (x.l.take j)) (lnAt l k).la := by rw [take_snoc hk, maT_snoc]
  refine ⟨hb, ?_, ?_, ?_⟩
  · rw [e1, e2, e3, e4]; exact hh
  · rw [e1, e2]; exact putE_zero hp
  · rw [e1, e2]
    have := h.owe
    rw [drop_cons' hk, owE, if_neg (by rw [hp]; simp)] at this
    exact this
end
section
variable {w : World} {p r : Nat} {S : Bs}
set_option maxRecDepth 100000 in
set_option maxHeartbeats 1000000 in
theorem owed_any (a : Option Addr) (n cap : Nat) (l : List Ln) (hn : l.length = n) (h : Bk w p r S) (hl : LnA w a l) (hall : ∀ x ∈ l, hasB S x.it = true ∧ Am x.un) (x : NsX) (i : Nat) (hx : NsA w x.a x.l) (hi : x.l[0]? = some i) (hlt : ∀ k ∈ x.l, k < n) (hm : x.l.length ≤ 100) (d : Int) :
    Calls Try.prog 24 #[.pointer (some ⟨p, 0, none⟩), .slice a n cap, x.val, .int .i64 d] w (OweR w S l d i x) := by
  have HK := Lib.hid h
  have HL := Lib.hid hl
  have HN := Lib.hid hn
  have HNs := Lib.hid hx
  have HI := Lib.hid hi
  have HLt := Lib.hid hlt
  have HAll := Lib.hid hall
  have hin := hlt i (List.mem_of_getElem? hi)
  obtain ⟨y, hy⟩ : ∃ y, l[i]? = some y := ⟨l[i]'(by omega), List.getElem?_eq_getElem _⟩
  have hy1 := hall y (List.mem_of_getElem? hy)
  have HIt := Lib.hid (fun (W : World) (hb : Below w.heap.size w W) => item_any y.it (h.up hb))
  unfold ItmR at HIt
  rw [itV_im hy1.1, hy1.1] at HIt
  have hly : lnAt l i = y := lnAt_some hy
  obtain ⟨m, hmm⟩ : ∃ m, m = x.l.length := ⟨_, rfl⟩
  have hm1 : 0 < m := by rw [hmm]; exact (List.getElem?_eq_some_iff.1 hi).1
  obtain ⟨pb, po, hpa, p0⟩ := ns_at hx hi
  obtain ⟨b, o, ha, c0, c1, c2, c3, c4⟩ := ln_at hl hy
  subst ha
  unfold NsX.val
  rw [hpa, ← hmm]
  have HM := Lib.hid hmm
  have hm100 : m ≤ 100 := by omega
  have HPa := Lib.hid hpa
  have hi0 : (0 : Int) ≤ (i : Int) := by omega
  have HY := Lib.hid hly
  rw [Nat.add_zero] at p0
  obtain ⟨Z, hZ⟩ : ∃ Z : Array Value, Z = #[.slice none 0 0, .int .i64 0, .int .i64 0, .int .i64 0, .int .i64 0, .int .i64 0] := ⟨_, rfl⟩
  have hbx : Below w.heap.size w (w.alloc (.cells Z 43)) := boxed _ _
  have HR0 := Lib.hid (Has.fresh w 43 Z)
  rw [hZ] at hbx HR0
  have q0 := kcell hbx p0
  have e0 := kcell hbx c0
  have e1 := kcell hbx c1
  have e2 := kcell hbx c2
  have e3 := kcell hbx c3
  have e4 := kcell hbx c4
  clear h hl hn hx hi hlt hall hy1 hy hly hmm hpa p0 c0 c1 c2 c3 c4 hbx hZ Z
  unfold Im.val at HIt
  go_enter Try.func24, Try.ntmps24
  go_wp2_with fail
  refine (HIt.out _ (up2 (boxed _ _) (boxed _ _))).mono ?_
  rintro e w1 ⟨rfl, hb1⟩
  obtain ⟨W0, hW0⟩ : ∃ W0, W0 = w.alloc (.cells #[.slice none 0 0, .int .i64 0, .int .i64 0, .int .i64 0, .int .i64 0, .int .i64 0] 43) := ⟨_, rfl⟩
  rw [← hW0] at hb1 HR0
  have hX := (Has.fresh W0 45 #[.int .i64 y.it, .int .i64 y.un, .int .i64 y.ch, .int .i64 y.fi, .int .i64 y.la]).up hb1
  have HX := Lib.hid hX
  have HR1 := Lib.hid ((HR0.out.up (boxed _ _)).up hb1)
  have HB1 : Hid (Below w.heap.size w w1) := by rw [hW0] at hb1; exact up2 (up2 (boxed _ _) (boxed _ _)) hb1
  have hs0 : W0.heap.size = w.heap.size + 1 := by rw [hW0]; simp
  rw [hs0] at HX
  clear hb1 hW0 hX
  have x3 : w1.cell? ⟨w.heap.size + 1, 3, none⟩ = some (.int .i64 y.fi) := HX.out.cell 3
  have x4 : w1.cell? ⟨w.heap.size + 1, 4, none⟩ = some (.int .i64 y.la) := HX.out.cell 4
  have xz := World.block_lt_of_cell? _ _ x3
  go_wp2_with fail
  obtain ⟨wp, hwp⟩ : ∃ wp, wp = w1.alloc (.cells #[.int .i64 (imAt S y).tag, .int .i64 (imAt S y).grp, .int .i64 (imAt S y).met, .int .i64 (imAt S y).pri] 50) := ⟨_, rfl⟩
  have hws : wp.heap.size = w1.heap.size + 1 := by rw [hwp]; simp
  rw [← hwp, ← hws]
  have HBp : Hid (Below w.heap.size w wp) := by rw [hwp]; exact up2 HB1.out (boxed _ _)
  have HRp : Hid (Has wp w.heap.size 43 #[.slice none 0 0, .int .i64 0, .int .i64 0, .int .i64 0, .int .i64 0, .int .i64 0]) := by rw [hwp]; exact HR1.out.up (boxed _ _)
  obtain ⟨E, hE⟩ : ∃ E, E = owE S l d x.l 0 0 := ⟨_, rfl⟩
  have HE := Lib.hid hE
  clear x3 x4 xz hwp hE q0 e0 e1 e2 e3 e4 hws hs0 HR0 HIt HX HR1 HB1 W0
  go_loopw [40] (fun v40 wr => ∃ j : Nat, j ≤ m ∧ v40 = .int .i64 (j : Int) ∧ OwJ wp wr S l d i x j E) (fun v40 _ => m - (intOf v40).toNat)
  case atStart =>
    refine ⟨0, Nat.zero_le _, rfl, boxed _ _, ?_, ⟨by show Am 0; exact am_small (by decide) (by decide), by show Am 0; exact am_small (by decide) (by decide)⟩, HE.out.symm⟩
    have := Has.fresh wp 43 #[.slice (some ⟨pb, po, none⟩) m x.cap, .int .i64 0, .int .i64 0, .int .i64 (imAt S y).met, .int .i64 y.fi, .int .i64 y.la]
    rw [HPa.out, ← HM.out, HY.out]
    show Has _ _ _ #[_, _, _, _, .int .i64 (lnAt l i).fi, .int .i64 (lnAt l i).la]
    rw [HY.out]
    exact this
  case round =>
    obtain ⟨j, hj, rfl, hJ⟩ := hrel
    have HJ := Lib.hid hJ
    have HBr := Lib.hid (up2 HBp.out hJ.bel)
    have HRr := Lib.hid (HRp.out.up hJ.bel)
    clear hJ
    by_cases hjm : j < m
    · obtain ⟨k, hk⟩ : ∃ k, x.l[j]? = some k := ⟨x.l[j]'(by rw [← HM.out]; exact hjm), List.getElem?_eq_getElem _⟩
      have hkn : k < n := HLt.out k (List.mem_of_getElem? hk)
      obtain ⟨z, hz⟩ : ∃ z, l[k]? = some z := ⟨l[k]'(by rw [HN.out]; exact hkn), List.getElem?_eq_getElem _⟩
      obtain ⟨pb', po', hpa', p0⟩ := ns_at (HNs.out.up HBr.out) hk
      rw [HPa.out] at hpa'
      obtain ⟨rfl, rfl⟩ : pb = pb' ∧ po = po' := by injection hpa' with q; injection q with q1 q2; exact ⟨q1, q2⟩
      obtain ⟨b', o', hb', c0, c1, c2, c3, c4⟩ := ln_at (HL.out.up HBr.out) hz
      obtain ⟨rfl, rfl⟩ : b = b' ∧ o = o' := by injection hb' with q; injection q with q1 q2; exact ⟨q1, q2⟩
      have hzl : lnAt l k = z := lnAt_some hz
      have hput := put_anyD z d (HK.out.up HBp.out) HJ.out.bel (Nat.le_refl _) HJ.out.has HJ.out.am.1 HJ.out.am.2 (HAll.out z (List.mem_of_getElem? hz)).2 (aloV_am S z d)
      unfold Ln.val at hput
      have HPut := Lib.hid hput
      have HKk := Lib.hid hk
      have HZl := Lib.hid hzl
      have e1 : IntKind.i64.wrap ((j : Int) + 1) = (j : Int) + 1 := IntWalk.i64_in _ (by omega)
      have hk0 : (0 : Int) ≤ (k : Int) := by omega
      clear hput hk hzl hz hpa' hb'
      go_wp2_with fail
      refine HPut.out.mono ?_
      rintro e w2 ⟨rfl, hb2, hs2, hh2⟩
      have HB2 := Lib.hid hb2
      have HH2 := Lib.hid hh2
      clear hb2 hh2 p0 c0 c1 c2 c3 c4
      obtain ⟨PE, hPE⟩ : ∃ PE, PE = putE S z d (alT S l d (x.l.take j)) (unT l (x.l.take j)) := ⟨_, rfl⟩
      rw [← hPE]
      have HPE := Lib.hid hPE
      clear hPE
      by_cases q : PE = 0
      · have hJ2 := HJ.out.more HKk.out (by rw [HZl.out, ← HPE.out]; exact q) HB2.out (by rw [HZl.out]; exact HH2.out (HPE.out.symm.trans q))
        have HJ2 := Lib.hid hJ2
        clear hJ2
        subst q
        go_wp2_with fail
        exact ⟨⟨j + 1, by omega, by go_num, HJ2.out⟩, by simp [intOf]; omega⟩
      · have hne : (PE != 0) = true := by simpa using q
        have hEP : E = PE := by
          rw [HPE.out, ← HZl.out]
          exact HJ.out.bad HKk.out (by rw [HZl.out, ← HPE.out]; exact q)
        have hR2 := HRp.out.up HB2.out
        have r0 : w2.cell? ⟨w.heap.size, 0, none⟩ = some (.slice none 0 0) := hR2.cell 0
        have r1 : w2.cell? ⟨w.heap.size, 1, none⟩ = some (.int .i64 0) := hR2.cell 1
        have r2 : w2.cell? ⟨w.heap.size, 2, none⟩ = some (.int .i64 0) := hR2.cell 2
        have r3 : w2.cell? ⟨w.heap.size, 3, none⟩ = some (.int .i64 0) := hR2.cell 3
        have r4 : w2.cell? ⟨w.heap.size, 4, none⟩ = some (.int .i64 0) := hR2.cell 4
        have r5 : w2.cell? ⟨w.heap.size, 5, none⟩ = some (.int .i64 0) := hR2.cell 5
        have f0 := hR2.free 0
        have f1 := hR2.free 1
        have f2 := hR2.free 2
        have f3 := hR2.free 3
        have f4 := hR2.free 4
        have f5 := hR2.free 5
        go_wp2_with fail
        have hOE : owE S l d x.l 0 0 = PE := HE.out.symm.trans hEP
        refine bodyPost_ret (v := .tuple #[zeroD, .int .i64 PE]) (by simp [results, Try.results24, go_sem, r0, r1, r2, r3, r4, r5, zeroD]) rfl ⟨?_, ?_⟩
        · rw [hOE, if_neg q]
        · exact ((((((up2 HBp.out HB2.out).setCell (Nat.le_refl _) _).setCell (Nat.le_refl _) _).setCell (Nat.le_refl _) _).setCell (Nat.le_refl _) _).setCell (Nat.le_refl _) _).setCell (Nat.le_refl _) _
    · obtain rfl : j = m := by omega
      have hD : Has wr wp.heap.size 43 #[.slice x.a x.l.length x.cap, .int .i64 (duOf S l d i x.l).al, .int .i64 (duOf S l d i x.l).un, .int .i64 (duOf S l d i x.l).me, .int .i64 (duOf S l d i x.l).fi, .int .i64 (duOf S l d i x.l).la] := by
        have := HJ.out.has
        rw [HM.out, List.take_length] at this
        exact this
      have hE0 : owE S l d x.l 0 0 = 0 := by
        have := HJ.out.owe
        rw [HM.out, List.drop_length] at this
        exact HE.out.symm.trans this.symm
      rw [HPa.out, ← HM.out] at hD
      have HE0 := Lib.hid hE0
      obtain ⟨D, hDD⟩ : ∃ D, D = duOf S l d i x.l := ⟨_, rfl⟩
      have hls : D.ls = x.l := by rw [hDD]; rfl
      have HV : Hid ((⟨x.a, x.cap, duOf S l d i x.l⟩ : DuX).val = .agg #[.slice (some ⟨pb, po, none⟩) j x.cap, .int .i64 D.al, .int .i64 D.un, .int .i64 D.me, .int .i64 D.fi, .int .i64 D.la]) := by
        rw [← hDD]
        unfold DuX.val
        rw [hls, HPa.out, ← HM.out]
        exact Lib.hid rfl
      rw [← hDD] at hD
      clear hDD hE0 hls
      have v0 : wr.cell? ⟨wp.heap.size, 0, none⟩ = some (.slice (some ⟨pb, po, none⟩) j x.cap) := hD.cell 0
      have v1 : wr.cell? ⟨wp.heap.size, 1, none⟩ = some (.int .i64 D.al) := hD.cell 1
      have v2 : wr.cell? ⟨wp.heap.size, 2, none⟩ = some (.int .i64 D.un) := hD.cell 2
      have v3 : wr.cell? ⟨wp.heap.size, 3, none⟩ = some (.int .i64 D.me) := hD.cell 3
      have v4 : wr.cell? ⟨wp.heap.size, 4, none⟩ = some (.int .i64 D.fi) := hD.cell 4
      have v5 : wr.cell? ⟨wp.heap.size, 5, none⟩ = some (.int .i64 D.la) := hD.cell 5
      have hR2 := HRr.out
      have r0 : wr.cell? ⟨w.heap.size, 0, none⟩ = some (.slice none 0 0) := hR2.cell 0
      have r1 : wr.cell? ⟨w.heap.size, 1, none⟩ = some (.int .i64 0) := hR2.cell 1
      have r2 : wr.cell? ⟨w.heap.size, 2, none⟩ = some (.int .i64 0) := hR2.cell 2
      have r3 : wr.cell? ⟨w.heap.size, 3, none⟩ = some (.int .i64 0) := hR2.cell 3
      have r4 : wr.cell? ⟨w.heap.size, 4, none⟩ = some (.int .i64 0) := hR2.cell 4
      have r5 : wr.cell? ⟨w.heap.size, 5, none⟩ = some (.int .i64 0) := hR2.cell 5
      have f0 := hR2.free 0
      have f1 := hR2.free 1
      have f2 := hR2.free 2
      have f3 := hR2.free 3
      have f4 := hR2.free 4
      have f5 := hR2.free 5
      go_wp2_with fail
      refine bodyPost_ret (v := .tuple #[.agg #[.slice (some ⟨pb, po, none⟩) j x.cap, .int .i64 D.al, .int .i64 D.un, .int .i64 D.me, .int .i64 D.fi, .int .i64 D.la], .int .i64 0]) (by simp [results, Try.results24, go_sem, r0, r1, r2, r3, r4, r5]) rfl ⟨by rw [HE0.out, if_pos rfl, HV.out], ?_⟩
      exact (((((HBr.out.setCell (Nat.le_refl _) _).setCell (Nat.le_refl _) _).setCell (Nat.le_refl _) _).setCell (Nat.le_refl _) _).setCell (Nat.le_refl _) _).setCell (Nat.le_refl _) _
end
end Go.Proofs.Ytjmgncjadfhmcaa
