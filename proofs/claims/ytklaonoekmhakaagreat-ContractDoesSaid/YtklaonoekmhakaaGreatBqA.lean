/- The reference's contract: Afresh. WRITTEN by wip/tools/gen_cqe.py. -/
import Derived.Test.YtklaonoekmhakaaGreatCqD
import Derived.Test.YtklaonoekmhakaaGreatDuA
import Derived.Test.YtklaonoekmhakaaGreatBoF
import Derived.Test.YtklaonoekmhakaaGreatDnMem
namespace Go.Proofs.YtklaonoekmhakaaGreat
open Go.RowKit

section
variable {w w' : World} {c : Nat} {P : List (Nat × Nat)} {S S' : Ct} {tv : Value}
set_option maxRecDepth 100000 in
set_option maxHeartbeats 16000000 in
theorem qcafresh_any (h : CqX w c P S tv) (day more : Int) (hm : Am more) : Calls Tryz.prog 13 #[.pointer (some ⟨c, 0, none⟩), .int .i64 day, .int .i64 more] w (ConR w c P (S.afrS day more) (S.afrE day more)) := by
  obtain ⟨ta, tk, rfl, hrow⟩ := h.row
  have c3 := h.has.cell 3
  simp at c3
  rw [h.n] at c3
  have HFar : Hid (∀ x ∈ P, x.1 < w.heap.size ∧ x.2 < w.heap.size) := Lib.hid fun x hx => by
    obtain ⟨⟨_, h1⟩, ⟨_, h2⟩⟩ := h.trs.lt hx
    exact ⟨h1.lt, h2.lt⟩
  have HH := Lib.hid h
  have HM := Lib.hid (qcmay_any h day more hm)
  unfold MayR at HM
  have HR := Lib.hid hrow
  have HC3 := Lib.hid c3
  have hn := h.n
  have HNl := Lib.hid hn
  have hl := h.fine.n1
  have HF := Lib.hid h.fine
  have HTq := Lib.hid (fun (W : World) (q : Below w.heap.size w W) => (h.up q).trs)
  have hno : ∀ X, S.afrE day more = X → X ≠ 0 → S.afrS day more = S := fun X h1 h2 => by unfold Ct.afrS; rw [if_neg (by rw [h1]; exact h2)]
  have HNo := Lib.hid hno
  have HMay0 := Lib.hid (fun (q : S.may day more = 0) => (Ct.may0 q).2.2.2.2)
  obtain ⟨n, hnn⟩ : ∃ n, n = S.n := ⟨_, rfl⟩
  rw [← hnn] at c3 HC3 hl HNl
  have HNn := Lib.hid hnn
  obtain ⟨M, hM⟩ : ∃ M, M = S.may day more := ⟨_, rfl⟩
  rw [← hM] at HM
  have HMe := Lib.hid hM
  obtain ⟨X, hX⟩ : ∃ X, X = S.afrE day more := ⟨_, rfl⟩
  obtain ⟨S', hS'⟩ : ∃ S', S' = S.afrS day more := ⟨_, rfl⟩
  rw [← hX, ← hS']
  have HXe := Lib.hid hX
  have HSe := Lib.hid hS'
  clear h hrow hn hno hm hnn hM hX hS'
  go_enter Tryz.func13, Tryz.ntmps13
  go_wp2_with fail
  refine HM.out.mono ?_
  rintro e w1 ⟨V, rfl, hV, hb⟩
  have HB1 := Lib.hid hb
  have HVe := Lib.hid hV
  clear hb hV c3
  by_cases q1 : M = 0
  rotate_left
  · have q1' : (M != 0) = true := by simpa using q1
    have hX : S.afrE day more = M := by unfold Ct.afrE; rw [if_pos (by rw [← HMe.out]; exact q1), ← HMe.out]
    have HX := Lib.hid hX
    have HQ1 := Lib.hid q1
    clear q1 hX
    go_wp2_with fail
    go_ret
    exact ⟨by rw [HXe.out, HX.out]; rfl, by rw [HSe.out, HNo.out _ HX.out HQ1.out]; exact CqR.same ⟨_, HH.out⟩ HB1.out⟩
  have q1' : (M != 0) = false := by simpa using q1
  have HV := Lib.hid (HVe.out q1)
  have HVa : Hid (Am V) := Lib.hid (by rw [HV.out]; exact HMay0.out (by rw [← HMe.out]; exact q1))
  have HQ1 := Lib.hid q1
  clear q1
  have hX0 : S.afrE day more = allE (S.N + more) S.alo S.n := by
    unfold Ct.afrE; rw [if_neg (by rw [← HMe.out, HQ1.out]; simp)]
  have HX0 := Lib.hid hX0
  clear hX0
  go_wp2_with fail
  obtain ⟨W3, hW3⟩ : ∃ W3, W3 = w1.alloc (.cells #[] 2) := ⟨_, rfl⟩
  have hg1 : Has W3 w1.heap.size 2 #[] := by rw [hW3]; exact Has.fresh w1 _ _
  have HO3 := Lib.hid (owl_one (B := w1.heap.size) hg1 (Nat.le_refl _))
  have HB3 : Hid (Below w.heap.size w W3) := by rw [hW3]; exact Lib.hid (up2 HB1.out (boxed _ _))
  have HB23 : Hid (w1.heap.size ≤ W3.heap.size) := by rw [hW3]; exact Lib.hid (by simp)
  rw [← hW3]
  clear hW3 hg1
  obtain ⟨B, hB⟩ : ∃ B, B = w1.heap.size := ⟨_, rfl⟩
  rw [← hB] at HO3 HB23 ⊢
  have HBB : Hid (w.heap.size ≤ B) := by rw [hB]; exact Lib.hid HB1.out.size
  clear hB
  go_loopw [9, 10] (fun d i wr => ∃ j : Nat, j ≤ n ∧ i = .int .i64 (j : Int) ∧ ∃ a1 c1, d = .slice a1 j c1 ∧ OwL wr B [⟨2, 1, .slice a1 j c1, j, valsTo S.alo j⟩] ∧ Below w.heap.size w wr ∧ B ≤ wr.heap.size) (fun _ i _ => n - (intOf i).toNat)
  case atStart => exact ⟨0, Nat.zero_le _, rfl, _, _, rfl, HO3.out, HB3.out, HB23.out⟩
  case round =>
    obtain ⟨j, hj, rfl, a1, c1, rfl, hO, hb, hs⟩ := hrel
    have HO := Lib.hid hO
    have HB := Lib.hid hb
    have HS := Lib.hid hs
    have c3 := kcell hb HC3.out
    clear hO hb hs
    by_cases hlt : j < n
    · obtain ⟨x, hx⟩ : ∃ x, P[j]? = some x := ⟨P[j]'(by rw [HNl.out]; exact hlt), List.getElem?_eq_getElem _⟩
      obtain ⟨tb, tof, ht, z0⟩ := pt_at (HR.out.up HB.out) hx
      subst ht
      have hjS : j < S.n := by rw [← HNn.out]; exact hlt
      have hal : wr.cell? ⟨x.1, 0, none⟩ = some (.pointer (some ⟨x.2, 0, none⟩)) ∧ wr.cell? ⟨x.2, 1, none⟩ = some (.int .i64 (S.alo j)) := (HTq.out wr HB.out).alone hx
      have hse : valsTo S.alo (j + 1) = valsTo S.alo j ++ [.int .i64 (S.alo j)] := valsTo_step _ _
      have HSe := Lib.hid hse
      obtain ⟨av, hav⟩ : ∃ av, av = S.alo j := ⟨_, rfl⟩
      rw [← hav] at hal HSe
      obtain ⟨y0, y1⟩ := hal
      have i0 : (0 : Int) ≤ (j : Int) := by omega
      have i1 : (j : Int) < (n : Int) := by omega
      have e1 : IntKind.i64.wrap ((j : Int) + 1) = (j : Int) + 1 := IntWalk.i64_in _ (by omega)
      obtain ⟨W5, hW5⟩ : ∃ W5, W5 = wr.alloc (.cells #[.int .i64 av] 2) := ⟨_, rfl⟩
      have hb5 : Below wr.heap.size wr W5 := by rw [hW5]; exact boxed _ _
      obtain ⟨a3, c4, w6, hr6, ho6, hb6, hs6⟩ := owl_num (w0 := w) (HO.out.up hb5) (i := 0) (k := j) rfl (by omega) (y := wr.heap.size) (z := av) (by rw [hW5]; exact Has.fresh _ _ _) (up2 HB.out hb5) HBB.out (Nat.le_trans HS.out hb5.size) 64
      have HR6 := Lib.hid hr6
      have HO6 := Lib.hid ho6
      have HB6 := Lib.hid hb6
      have HS6 := Lib.hid hs6
      have HW5 := Lib.hid hW5
      clear hr6 ho6 hb6 hs6 hb5 hW5 hx hse hav hjS
      go_wp2_with (first | (rw [← HW5.out]; refine wpList_run (o := ⟨some 50, _, _, _, _, _⟩) rfl (.tmp 34) (.tmp 49) 64 rfl _ _ rfl rfl (S := fun u q => u = .slice a3 (j + 1) c4 ∧ q = w6) ⟨_, w6, HR6.out, rfl, rfl⟩ ?_; rintro u q ⟨rfl, rfl⟩) | fail)
      refine ⟨⟨j + 1, by omega, by go_num, _, _, rfl, ?_, HB6.out, HS6.out⟩, by simp [intOf]; omega⟩
      rw [HSe.out]
      exact HO6.out
    · obtain rfl : j = n := by omega
      have hX : S.afrE day more = allE V S.alo j := by rw [HX0.out, ← HNn.out, HV.out]
      have HX := Lib.hid hX
      have hA1 : Arg wr a1 j S.alo := fun hp => by
        obtain ⟨g, cc, e, _, hI⟩ := vals_ints hp (HO.out.own 0 _ rfl)
        injection e with e
        subst e
        exact ints_arg0 hI hp
      have HAg := Lib.hid (rall_any V S.alo a1 j c1 wr HF.out.alo_am HVa.out hA1)
      unfold RAllPost RListed at HAg
      obtain ⟨ae, hae⟩ : ∃ ae, ae = allE V S.alo j := ⟨_, rfl⟩
      rw [← hae] at HAg HX
      obtain ⟨ov, hov⟩ : ∃ ov : Nat → Int, ov = outV (S.N + more) S.alo S.n := ⟨_, rfl⟩
      have hav : ov = outV V S.alo j := by rw [hov, HV.out, HNn.out]
      rw [← hav] at HAg
      have HOv := Lib.hid hov
      clear hX hA1 hae hav hov
      go_wp2_with fail
      refine HAg.out.mono ?_
      rintro e w4 ⟨hb, ⟨q, rfl⟩ | ⟨q, p, pc, rfl, hp, hI⟩⟩
      · have HB4 := Lib.hid (up2 HB.out hb)
        have q' : (ae != 0) = true := by simpa using q
        have HQ := Lib.hid q
        clear hb q c3
        go_wp2_with fail
        go_ret
        exact ⟨by rw [HXe.out, HX.out]; rfl, by rw [HSe.out, HNo.out _ HX.out HQ.out]; exact CqR.same ⟨_, HH.out⟩ HB4.out⟩
      · have hX : S.afrE day more = 0 := by rw [HX.out, q]
        have HX1 := Lib.hid hX
        have hb4 := up2 HB.out hb
        have hsz := HB.out.size
        have HM4 := Lib.hid (Cmid.start (g := fun t x => ⟨x.d, x.E, afrS x.L day (ov t)⟩) (HH.out.up hb4) hb4 (by rw [← HNn.out]; exact hI) (fun x hx => by have := HFar.out x hx; constructor <;> omega))
        have q0 : (ae != 0) = false := by simpa using q
        clear hb q hb4 hsz hp hI hX c3
        go_wp2_with fail
        go_loopw [13] (fun i wr => ∃ t : Nat, t ≤ j ∧ i = .int .i64 (t : Int) ∧ Cmid w wr c P S (fun t x => ⟨x.d, x.E, afrS x.L day (ov t)⟩) (.slice ta P.length tk) p ov t) (fun i _ => j - (intOf i).toNat)
        case atStart => exact ⟨0, Nat.zero_le _, rfl, HM4.out⟩
        case round =>
          obtain ⟨t, ht, rfl, hM⟩ := hrel
          have HM := Lib.hid hM
          clear hM
          by_cases hlt2 : t < j
          · obtain ⟨x, hx⟩ : ∃ x, P[t]? = some x := ⟨P[t]'(by rw [HNl.out]; exact hlt2), List.getElem?_eq_getElem _⟩
            obtain ⟨tb, tof, hta, _⟩ := pt_at HR.out hx
            subst hta
            have htS : t < S.n := by rw [← HNn.out]; exact hlt2
            obtain ⟨vv, hvv⟩ : ∃ vv, vv = ov t := ⟨_, rfl⟩
            have HCells : Hid (∀ (W : World) (i : Nat), Cmid w W c P S (fun t x => ⟨x.d, x.E, afrS x.L day (ov t)⟩) (.slice (some ⟨tb, tof, none⟩) P.length tk) p ov i → W.cell? ⟨c, 3, none⟩ = some (.slice (some ⟨tb, tof, none⟩) j tk) ∧ W.cell? ⟨tb, tof + t, none⟩ = some (.pointer (some ⟨x.1, 0, none⟩)) ∧ W.cell? ⟨p, t, none⟩ = some (.int .i64 vv)) := Lib.hid fun W i h => by
              have z := h.cells htS hx rfl
              rw [HNl.out, ← hvv] at z
              exact z
            have HM1 := Lib.hid (HM.out.up (Below.refl _ _).drew)
            have HCall : Hid (Calls Tryz.prog 42 #[.pointer (some ⟨x.1, 0, none⟩), .int .i64 day, .int .i64 vv] wr.drew fun e w' => (∃ X, e = .returned (.int .i64 X)) ∧ Cmid w w' c P S (fun t x => ⟨x.d, x.E, afrS x.L day (ov t)⟩) (.slice (some ⟨tb, tof, none⟩) P.length tk) p ov (t + 1)) := Lib.hid (by
              obtain ⟨sv, hq⟩ := HM1.out.at htS hx
              have ha := (HF.out.afr_track HX1.out htS).2
              rw [← HOv.out] at ha
              rw [← hvv] at ha
              refine (qafresh_any hq day vv ha).mono fun e w' z => ⟨⟨_, z.1⟩, HM1.out.step htS hx ?_⟩
              rw [hvv] at z
              exact z.2)
            have i0 : (0 : Int) ≤ (t : Int) := by omega
            have i1 : (t : Int) < (j : Int) := by omega
            have e1 : IntKind.i64.wrap ((t : Int) + 1) = (t : Int) + 1 := IntWalk.i64_in _ (by omega)
            obtain ⟨k3, kz, kv⟩ := HCells.out _ _ HM.out
            clear hx htS hvv
            go_wp2_with fail
            have K0 : Hid (wr.drew.cell? ⟨c, 3, none⟩ = some (.slice (some ⟨tb, tof, none⟩) j tk) ∧ wr.drew.cell? ⟨tb, tof + t, none⟩ = some (.pointer (some ⟨x.1, 0, none⟩)) ∧ wr.drew.cell? ⟨p, t, none⟩ = some (.int .i64 vv)) := Lib.hid ⟨k3, kz, kv⟩
            go_region_held3 (fun w' => w'.cell? ⟨c, 3, none⟩ = some (.slice (some ⟨tb, tof, none⟩) j tk) ∧ w'.cell? ⟨tb, tof + t, none⟩ = some (.pointer (some ⟨x.1, 0, none⟩)) ∧ w'.cell? ⟨p, t, none⟩ = some (.int .i64 vv))
              (first | (go_keep; done) | (with_reducible exact K0.out) | (with_reducible exact kK1.out))
              (first | (go_at_call 42; (with_reducible refine (HCall.out).mono ?_); rintro e w5 ⟨⟨X, rfl⟩, hM5⟩; have kM5 := Lib.hid hM5; have kK1 := Lib.hid (HCells.out _ _ hM5); clear hM5))
            all_goals
              clear k3 kz kv
              go_wp2_with fail
              exact ⟨⟨t + 1, by omega, by go_num, kM5.out⟩, by simp [intOf]; omega⟩
          · obtain rfl : t = j := by omega
            clear hlt2
            have hD := HM.out
            rw [show t = S.n from HNn.out] at hD
            have h0 := hD.has
            have d0 := h0.cell 0
            have d1 := h0.cell 1
            have d2 := h0.cell 2
            have d3 := h0.cell 3
            have f0 := h0.free 0
            have f1 := h0.free 1
            have f2 := h0.free 2
            simp at d0 d1 d2 d3
            have hch := HF.out.ch
            have hF2 := HF.out.afr1 (day := day) (more := more)
            have hS2 : S.afrS day more = ⟨V, day, S.ch + 1, S.T.mapIdx fun t x => ⟨x.d, x.E, afrS x.L day (ov t)⟩⟩ := by unfold Ct.afrS; rw [if_pos HX1.out, HV.out, HOv.out]
            rw [hS2] at hF2
            have HS2 := Lib.hid hS2
            have HDone := Lib.hid (hD.done hF2)
            rw [HNl.out] at d3
            generalize S.N = N at d0
            generalize S.la = la at d1
            generalize S.ch = ch at d2 HDone HS2 hch
            have e1 : IntKind.i64.wrap ((ch : Int) + 1) = (ch : Int) + 1 := IntWalk.i64_in _ (by omega)
            clear hD h0 hF2 hS2
            go_wp2_with fail
            go_ret
            refine ⟨by rw [HXe.out, HX1.out]; rfl, ?_⟩
            rw [HSe.out, HS2.out]
            exact HDone.out
end
end Go.Proofs.YtklaonoekmhakaaGreat

namespace Go.Proofs.YtklaonoekmhakaaGreat
open Go.RowKit

/-- are two obligations the same, but for places, where these don't count? -/
def oneP (pl : Bool) (a b : Du) : Bool := decide (a.al = b.al) && decide (a.un = b.un) && decide (a.me = b.me) && decide (a.fi = b.fi) && decide (a.la = b.la) && decide (a.ls.length = b.ls.length) && (!pl || decide (a.ls = b.ls))
end Go.Proofs.YtklaonoekmhakaaGreat

namespace Go.Proofs.YtklaonoekmhakaaGreat
open Go.RowKit

/-- are obligations the same? -/
def sameP (L M : List Du) : Bool := decide (L.length = M.length) && (List.range L.length).all fun i => decide ((L[i]?).map (fun a => (M[i]?).map (fun b => oneP true a b)) = some (some true))
/-- the cells of two obligations -/
def D2 (w : World) (b1 o1 : Nat) (x : DuX) (b2 o2 : Nat) (y : DuX) : Prop :=
  w.cell? ⟨b1, o1, none⟩ = some (.slice x.a x.d.ls.length x.cap) ∧ w.cell? ⟨b1, o1 + 1, none⟩ = some (.int .i64 x.d.al) ∧ w.cell? ⟨b1, o1 + 2, none⟩ = some (.int .i64 x.d.un) ∧ w.cell? ⟨b1, o1 + 3, none⟩ = some (.int .i64 x.d.me) ∧ w.cell? ⟨b1, o1 + 4, none⟩ = some (.int .i64 x.d.fi) ∧ w.cell? ⟨b1, o1 + 5, none⟩ = some (.int .i64 x.d.la) ∧ w.cell? ⟨b2, o2, none⟩ = some (.slice y.a y.d.ls.length y.cap) ∧ w.cell? ⟨b2, o2 + 1, none⟩ = some (.int .i64 y.d.al) ∧ w.cell? ⟨b2, o2 + 2, none⟩ = some (.int .i64 y.d.un) ∧ w.cell? ⟨b2, o2 + 3, none⟩ = some (.int .i64 y.d.me) ∧ w.cell? ⟨b2, o2 + 4, none⟩ = some (.int .i64 y.d.fi) ∧ w.cell? ⟨b2, o2 + 5, none⟩ = some (.int .i64 y.d.la)
theorem D2.up {w w' : World} {b1 o1 b2 o2 : Nat} {x y : DuX} (h : D2 w b1 o1 x b2 o2 y) (q : Below w.heap.size w w') : D2 w' b1 o1 x b2 o2 y := by
  obtain ⟨h0, h1, h2, h3, h4, h5, k0, k1, k2, k3, k4, k5⟩ := h
  exact ⟨kcell q h0, kcell q h1, kcell q h2, kcell q h3, kcell q h4, kcell q h5, kcell q k0, kcell q k1, kcell q k2, kcell q k3, kcell q k4, kcell q k5⟩
theorem D2.drew {w : World} {b1 o1 b2 o2 : Nat} {x y : DuX} (h : D2 w b1 o1 x b2 o2 y) : D2 w.drew b1 o1 x b2 o2 y := h
end Go.Proofs.YtklaonoekmhakaaGreat

namespace Go.Proofs.YtklaonoekmhakaaGreat
open Go.RowKit

/-- a book of a call's own, on its way -/
structure Sb (w0 w : World) (p r : Nat) (S : Bs) : Prop where
  bk : Bk w p r S
  bel : Below w0.heap.size w0 w
  lo : w0.heap.size ≤ r
section
variable {w0 w w' : World} {p r : Nat} {S : Bs}
theorem Sb.up (h : Sb w0 w p r S) (q : Below w.heap.size w w') : Sb w0 w' p r S := ⟨h.bk.up q, up2 h.bel q, h.lo⟩
theorem Sb.of {i d n : Int} {e : Ending} (h : Sb w0 w p r S) (q : SetR w p r S i d n e w') : Sb w0 w' p r (setS S i d n) :=
  ⟨q.2.1, h.bel.grown q.2.2 h.bel.size (fun j hj => by injection hj with hj; have := h.lo; omega), h.lo⟩
end
theorem ita_fresh (w : World) (I : List Im) (cs : Array Value) (hcs : cs = (I.flatMap Im.cells).toArray) : ItA (w.alloc (.cells cs 72)) (some ⟨w.heap.size, 0, none⟩) I := by
  subst hcs
  refine .inr ⟨_, _, rfl, fun i x hx j v hv => ?_⟩
  rw [(Has.fresh w 72 (I.flatMap Im.cells).toArray).cell, List.getElem?_toArray, Nat.zero_add]
  exact flat_at im_len I i j x v hx hv
def aI : List Im := [⟨0, 0, 0, 100⟩]
def aS0 : Bs := ⟨aI, []⟩
def aS1 : Bs := ⟨aI, [⟨0, 10, 120⟩]⟩
def aX : Ln := ⟨0, 3, 0, 1, 1⟩
end Go.Proofs.YtklaonoekmhakaaGreat

namespace Go.Proofs.YtklaonoekmhakaaGreat
open Go.RowKit

theorem rws_fresh {α : Type} {c : α → List Value} {z : Nat} (hz : ∀ x, (c x).length = z) (w : World) (T : Nat) (l : List α) (cs : Array Value) (hcs : cs = (l.flatMap c).toArray) : Rws c z (w.alloc (.cells cs T)) (some ⟨w.heap.size, 0, none⟩) l := by
  subst hcs
  refine .inr ⟨_, _, rfl, fun i x hx j v hv => ?_⟩
  rw [(Has.fresh w T (l.flatMap c).toArray).cell, List.getElem?_toArray, Nat.zero_add]
  exact flat_at hz l i j x v hx hv
def kI : List Im := [⟨0, 0, 0, 10⟩, ⟨1, 3, 1, 5⟩]
def kL : List Ln := [⟨0, 1, 9, 5, 6⟩, ⟨1, 2, 0, 4, 4⟩, ⟨0, 1, 0, 1, 1⟩, ⟨1, 1, 0, 9, 9⟩]
def kS : Bs := ⟨kI, []⟩
def kD : List Du := [⟨[0], 10, 1, 0, 5, 6⟩, ⟨[1, 3], 15, 3, 1, 4, 9⟩, ⟨[2], 10, 1, 0, 1, 1⟩]
/-- the obligations that awake writes out -/
def kY (s : Nat) : List DuX := [⟨some ⟨s, 0, none⟩, 1, ⟨[0], 10, 1, 0, 5, 6⟩⟩, ⟨some ⟨s + 1, 0, none⟩, 2, ⟨[1, 3], 15, 3, 1, 4, 9⟩⟩, ⟨some ⟨s + 2, 0, none⟩, 1, ⟨[2], 10, 1, 0, 1, 1⟩⟩]
end Go.Proofs.YtklaonoekmhakaaGreat

namespace Go.Proofs.YtklaonoekmhakaaGreat
open Go.RowKit

/-- the reference's book: its struct lies in block p -/
structure Rbx (w : World) (p : Nat) (S : Bs) (qa : Option Addr) (qc : Nat) (la : Option Addr) (lc : Nat) : Prop where
  book : Has w p 128 #[.slice qa S.I.length qc, .slice la S.L.length lc]
  items : ItA w qa S.I
  pcs : PcA w la S.L
  nil : la = none → lc = 0
def Rb (w : World) (p : Nat) (S : Bs) : Prop := ∃ qa qc la lc, Rbx w p S qa qc la lc
section
variable {w w' : World} {p : Nat} {S : Bs} {qa la : Option Addr} {qc lc : Nat}
theorem Rbx.up (h : Rbx w p S qa qc la lc) (q : Below w.heap.size w w') : Rbx w' p S qa qc la lc := ⟨h.book.up q, h.items.up q, h.pcs.up q, h.nil⟩
theorem Rb.up (h : Rb w p S) (q : Below w.heap.size w w') : Rb w' p S := by
  obtain ⟨qa, qc, la, lc, h⟩ := h; exact ⟨qa, qc, la, lc, h.up q⟩
theorem Rbx.off (h : Rbx w p S qa qc la lc) {g : Nat} (hg : NoInt w g) (h1 : p ≠ g) (q : w.grownBy w' (some g)) : Rbx w' p S qa qc la lc :=
  ⟨(q.block p h.book.lt (fun e => h1 (by injection e))).trans h.book, h.items.off im_int hg q, h.pcs.off pc_int hg q, h.nil⟩
theorem Rb.off (h : Rb w p S) {g : Nat} (hg : NoInt w g) (h1 : p ≠ g) (q : w.grownBy w' (some g)) : Rb w' p S := by
  obtain ⟨qa, qc, la, lc, h⟩ := h; exact ⟨qa, qc, la, lc, h.off hg h1 q⟩
theorem Rbx.noInt (h : Rbx w p S qa qc la lc) : NoInt w p := noInt_of h.book fun v hv => by
  simp at hv
  rcases hv with rfl | rfl <;> exact ⟨_, _, _, rfl⟩
theorem Rb.noInt (h : Rb w p S) : NoInt w p := by obtain ⟨_, _, _, _, h⟩ := h; exact h.noInt
theorem Rb.lt (h : Rb w p S) : p < w.heap.size := by obtain ⟨_, _, _, _, h⟩ := h; exact h.book.lt
theorem Rbx.c0 (h : Rbx w p S qa qc la lc) : w.cell? ⟨p, 0, none⟩ = some (.slice qa S.I.length qc) := h.book.cell 0
theorem Rbx.c1 (h : Rbx w p S qa qc la lc) : w.cell? ⟨p, 1, none⟩ = some (.slice la S.L.length lc) := h.book.cell 1

theorem lnB_iff {x : Ln} : lnB S x = true ↔ 0 ≤ x.it ∧ x.it < (S.I.length : Int) ∧ 1 ≤ x.un ∧ 0 ≤ x.ch ∧ 1 ≤ x.fi ∧ x.fi ≤ x.la ∧ x.la ≤ 1000000 := by
  unfold lnB hasB
  simp only [Bool.and_eq_true, decide_eq_true_eq]
  constructor
  · rintro ⟨⟨⟨⟨⟨⟨a, b⟩, c⟩, d⟩, e⟩, f⟩, g⟩; exact ⟨a, b, c, d, e, f, g⟩
  · rintro ⟨a, b, c, d, e, f, g⟩; exact ⟨⟨⟨⟨⟨⟨a, b⟩, c⟩, d⟩, e⟩, f⟩, g⟩
set_option maxRecDepth 100000 in
set_option maxHeartbeats 4000000 in
theorem may_cells {n : Nat} (it un ch fi la : Int) (V : Bool) (h0 : w.cell? ⟨p, 0, none⟩ = some (.slice qa n qc)) (hV : V = true ↔ 0 ≤ it ∧ it < (n : Int) ∧ 1 ≤ un ∧ 0 ≤ ch ∧ 1 ≤ fi ∧ fi ≤ la ∧ la ≤ 1000000) :
    Calls Tryz.prog 141 #[.pointer (some ⟨p, 0, none⟩), .agg #[.int .i64 it, .int .i64 un, .int .i64 ch, .int .i64 fi, .int .i64 la]] w fun e w' => e = .returned (.bool V) ∧ Below w.heap.size w w' := by
  have hlt := World.block_lt_of_cell? _ _ h0
  have k0 : (w.alloc (.cells #[.int .i64 it, .int .i64 un, .int .i64 ch, .int .i64 fi, .int .i64 la] 74)).cell? ⟨p, 0, none⟩ = some (.slice qa n qc) := kcell (boxed _ _) h0
  clear h0
  by_cases h0 : 0 ≤ it
  · by_cases h1 : it < (n : Int)
    · by_cases h2 : 1 ≤ un
      · by_cases h3 : 0 ≤ ch
        · by_cases h4 : 1 ≤ fi
          · by_cases h5 : fi ≤ la
            · by_cases h6 : la ≤ 1000000
              · obtain rfl : V = true := by exact hV.2 (by omega)
                have t0 : decide (it < 0) = false := decide_eq_false (by omega)
                have t1 : decide ((n : Int) ≤ it) = false := decide_eq_false (by omega)
                have t2 : decide (un < 1) = false := decide_eq_false (by omega)
                have t3 : decide (ch < 0) = false := decide_eq_false (by omega)
                have t4 : decide (1 ≤ fi) = true := decide_eq_true (by omega)
                have t5 : decide (fi ≤ la) = true := decide_eq_true (by omega)
                have t6 : decide (la ≤ 1000000) = true := decide_eq_true (by omega)
                clear hV h0 h1 h2 h3 h4 h5 h6
                go_enter Tryz.func141, Tryz.ntmps141
                go_wp2_with fail
                go_quiet (fail)
                go_wp2_with fail
                go_ret
                exact ⟨rfl, blw (boxed _ _) nq⟩
              · obtain rfl : V = false := by rw [Bool.eq_false_iff]; intro z; have := hV.1 z; omega
                have t0 : decide (it < 0) = false := decide_eq_false (by omega)
                have t1 : decide ((n : Int) ≤ it) = false := decide_eq_false (by omega)
                have t2 : decide (un < 1) = false := decide_eq_false (by omega)
                have t3 : decide (ch < 0) = false := decide_eq_false (by omega)
                have t4 : decide (1 ≤ fi) = true := decide_eq_true (by omega)
                have t5 : decide (fi ≤ la) = true := decide_eq_true (by omega)
                have t6 : decide (la ≤ 1000000) = false := decide_eq_false (by omega)
                clear hV h0 h1 h2 h3 h4 h5 h6
                go_enter Tryz.func141, Tryz.ntmps141
                go_wp2_with fail
                go_quiet (fail)
                go_wp2_with fail
                go_ret
                exact ⟨rfl, blw (boxed _ _) nq⟩
            · obtain rfl : V = false := by rw [Bool.eq_false_iff]; intro z; have := hV.1 z; omega
              have t0 : decide (it < 0) = false := decide_eq_false (by omega)
              have t1 : decide ((n : Int) ≤ it) = false := decide_eq_false (by omega)
              have t2 : decide (un < 1) = false := decide_eq_false (by omega)
              have t3 : decide (ch < 0) = false := decide_eq_false (by omega)
              have t4 : decide (1 ≤ fi) = true := decide_eq_true (by omega)
              have t5 : decide (fi ≤ la) = false := decide_eq_false (by omega)
              clear hV h0 h1 h2 h3 h4 h5
              go_enter Tryz.func141, Tryz.ntmps141
              go_wp2_with fail
              go_quiet (fail)
              go_wp2_with fail
              go_ret
              exact ⟨rfl, blw (boxed _ _) nq⟩
          · obtain rfl : V = false := by rw [Bool.eq_false_iff]; intro z; have := hV.1 z; omega
            have t0 : decide (it < 0) = false := decide_eq_false (by omega)
            have t1 : decide ((n : Int) ≤ it) = false := decide_eq_false (by omega)
            have t2 : decide (un < 1) = false := decide_eq_false (by omega)
            have t3 : decide (ch < 0) = false := decide_eq_false (by omega)
            have t4 : decide (1 ≤ fi) = false := decide_eq_false (by omega)
            clear hV h0 h1 h2 h3 h4
            go_enter Tryz.func141, Tryz.ntmps141
            go_wp2_with fail
            go_quiet (fail)
            go_wp2_with fail
            go_ret
            exact ⟨rfl, blw (boxed _ _) nq⟩
        · obtain rfl : V = false := by rw [Bool.eq_false_iff]; intro z; have := hV.1 z; omega
          have t0 : decide (it < 0) = false := decide_eq_false (by omega)
          have t1 : decide ((n : Int) ≤ it) = false := decide_eq_false (by omega)
          have t2 : decide (un < 1) = false := decide_eq_false (by omega)
          have t3 : decide (ch < 0) = true := decide_eq_true (by omega)
          clear hV h0 h1 h2 h3
          go_enter Tryz.func141, Tryz.ntmps141
          go_wp2_with fail
          go_quiet (fail)
          go_wp2_with fail
          go_ret
          exact ⟨rfl, blw (boxed _ _) nq⟩
      · obtain rfl : V = false := by rw [Bool.eq_false_iff]; intro z; have := hV.1 z; omega
        have t0 : decide (it < 0) = false := decide_eq_false (by omega)
        have t1 : decide ((n : Int) ≤ it) = false := decide_eq_false (by omega)
        have t2 : decide (un < 1) = true := decide_eq_true (by omega)
        clear hV h0 h1 h2
        go_enter Tryz.func141, Tryz.ntmps141
        go_wp2_with fail
        go_quiet (fail)
        go_wp2_with fail
        go_ret
        exact ⟨rfl, blw (boxed _ _) nq⟩
    · obtain rfl : V = false := by rw [Bool.eq_false_iff]; intro z; have := hV.1 z; omega
      have t0 : decide (it < 0) = false := decide_eq_false (by omega)
      have t1 : decide ((n : Int) ≤ it) = true := decide_eq_true (by omega)
      clear hV h0 h1
      go_enter Tryz.func141, Tryz.ntmps141
      go_wp2_with fail
      go_quiet (fail)
      go_wp2_with fail
      go_ret
      exact ⟨rfl, blw (boxed _ _) nq⟩
  · obtain rfl : V = false := by rw [Bool.eq_false_iff]; intro z; have := hV.1 z; omega
    have t0 : decide (it < 0) = true := decide_eq_true (by omega)
    clear hV h0
    go_enter Tryz.func141, Tryz.ntmps141
    go_wp2_with fail
    go_quiet (fail)
    go_wp2_with fail
    go_ret
    exact ⟨rfl, blw (boxed _ _) nq⟩
theorem qmay_any (x : Ln) (h : Rb w p S) : Calls Tryz.prog 141 #[.pointer (some ⟨p, 0, none⟩), x.val] w fun e w' => e = .returned (.bool (lnB S x)) ∧ Below w.heap.size w w' := by
  obtain ⟨_, _, _, _, h⟩ := h
  exact may_cells x.it x.un x.ch x.fi x.la _ h.c0 lnB_iff
set_option maxRecDepth 100000 in
set_option maxHeartbeats 4000000 in
theorem qcheck_any (a : Option Addr) (cap : Nat) (l : List Ln) (h : Rb w p S) (hl : LnA w a l) : Calls Tryz.prog 104 #[.pointer (some ⟨p, 0, none⟩), .slice a l.length cap] w fun e w' => e = .returned (.int .i64 (chkE S l)) ∧ Below w.heap.size w w' := by
  obtain ⟨n, hn⟩ : ∃ n, n = l.length := ⟨_, rfl⟩
  have hE : chkE S l = if 12 < n then 4 else if n = 0 then 1 else if l.all (lnB S) = true then 0 else 1 := by rw [hn]; rfl
  rw [hE, ← hn]
  clear hE
  by_cases q1 : 12 < n
  · rw [if_pos q1]
    have q1' : ((12 : Int) < (n : Int)) := by omega
    clear h hl hn
    go_enter Tryz.func104, Tryz.ntmps104
    go_wp2_with fail
    go_ret
    exact ⟨rfl, Below.refl _ _⟩
  · rw [if_neg q1]
    by_cases q2 : n = 0
    · rw [if_pos q2]
      subst q2
      clear h hl hn q1
      go_enter Tryz.func104, Tryz.ntmps104
      go_wp2_with fail
      go_ret
      exact ⟨rfl, Below.refl _ _⟩
    · rw [if_neg q2]
      have hlen : n ≤ 12 := by omega
      have hz : ¬ ((n : Int) < 1) := by omega
      obtain ⟨E, hE⟩ : ∃ E : Int, E = if l.all (lnB S) = true then 0 else 1 := ⟨_, rfl⟩
      rw [← hE]
      have HE := Lib.hid hE
      have HT := Lib.hid (fun (W : World) (hb : Below w.heap.size w W) (x : Ln) => qmay_any x (h.up hb))
      have HL := Lib.hid hl
      have HN := Lib.hid hn
      clear h hl hn q1 q2 hE
      go_enter Tryz.func104, Tryz.ntmps104
      go_wp2_with fail
      go_loopw [5] (fun i wr => ∃ k : Nat, k ≤ n ∧ i = .int .i64 (k : Int) ∧ (∀ t x, t < k → l[t]? = some x → lnB S x = true) ∧ Below w.heap.size w wr) (fun i _ => n - (intOf i).toNat)
      case atStart => exact ⟨0, Nat.zero_le _, rfl, fun t x ht _ => by omega, Below.refl _ _⟩
      case round =>
        obtain ⟨k, hk, rfl, hall, hb⟩ := hrel
        have HA := Lib.hid hall
        have HB := Lib.hid hb
        clear hall hb
        by_cases hlt : k < n
        · obtain ⟨x, hx⟩ : ∃ x, l[k]? = some x := ⟨l[k]'(by rw [← HN.out]; exact hlt), List.getElem?_eq_getElem _⟩
          obtain ⟨b, o, ha, c0, c1, c2, c3, c4⟩ := ln_at (HL.out.up HB.out) hx
          subst ha
          have HX := Lib.hid hx
          clear hx
          go_wp2_with fail
          have hT := HT.out wr HB.out x
          unfold Ln.val at hT
          refine hT.mono ?_
          rintro e w1 ⟨rfl, hb1⟩
          have HB1 := Lib.hid (up2 HB.out hb1)
          clear hT hb1 c0 c1 c2 c3 c4
          cases q : lnB S x with
          | true =>
            have HQ := Lib.hid q
            clear q
            go_wp2_with fail
            go_roundw
            case rel =>
              refine ⟨k + 1, by omega, by go_num, fun t y ht hy => ?_, HB1.out⟩
              by_cases z : t = k
              · subst z; rw [HX.out] at hy; obtain rfl := Option.some.inj hy; exact HQ.out
              · exact HA.out t y (by omega) hy
            case measure => simp [intOf]; omega
          | false =>
            have hno : ¬ l.all (lnB S) = true := fun z => by
              have := List.all_eq_true.1 z x (List.mem_of_getElem? HX.out)
              rw [q] at this; cases this
            have hE : E = 1 := by rw [HE.out, if_neg hno]
            subst hE
            clear q hno
            go_wp2_with fail
            go_ret
            exact ⟨rfl, HB1.out⟩
        · have hyes : l.all (lnB S) = true := List.all_eq_true.2 fun x hx => by
            obtain ⟨i, hi⟩ := List.getElem?_of_mem hx
            have := (List.getElem?_eq_some_iff.1 hi).1
            exact HA.out i x (by rw [← HN.out] at this; omega) hi
          have hE : E = 0 := by rw [HE.out, if_pos hyes]
          subst hE
          clear hyes
          go_wp2_with fail
          go_ret
          exact ⟨rfl, HB.out⟩
end
end Go.Proofs.YtklaonoekmhakaaGreat
