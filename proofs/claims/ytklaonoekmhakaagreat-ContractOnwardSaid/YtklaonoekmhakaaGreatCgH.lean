/- A book of a call's own; awake; large. -/
import Derived.Test.YtklaonoekmhakaaGreatBoF
import Derived.Test.YtklaonoekmhakaaGreatDuA
import Derived.Test.YtklaonoekmhakaaGreatDnMem
import Derived.Test.YtklaonoekmhakaaGreatCfS
import Derived.Test.YtklaonoekmhakaaGreatCfG
namespace Go.Proofs.YtklaonoekmhakaaGreat
open Go.RowKit

/-- a book of a call's own, on its way -/
structure Sb (w0 w : World) (p r : Nat) (S : Bs) : Prop where
  bk : Bk w p r S
  bel : Below w0.heap.size w0 w
  lo : w0.heap.size ≤ r
section
variable {w0 w w' : World} {p r : Nat} {S : Bs}
theorem Sb.up (h : Sb w0 w p r S) (q : Below w.heap.size w w') : Sb w0 w' p r S := ⟨h.bk.up q, up2 h.bel q, h.lo⟩
theorem Sb.of {i d n : Int} {e : Ending} (h : Sb w0 w p r S) (q : SetR w p r S i d n e w') : Sb w0 w' p r (setS S i d n) :=
  ⟨q.2.1, h.bel.grown q.2.2 h.bel.size (fun j hj => by injection hj with hj; have := h.lo; omega), h.lo⟩
end
theorem ita_fresh (w : World) (I : List Im) (cs : Array Value) (hcs : cs = (I.flatMap Im.cells).toArray) : ItA (w.alloc (.cells cs 72)) (some ⟨w.heap.size, 0, none⟩) I := by
  subst hcs
  refine .inr ⟨_, _, rfl, fun i x hx j v hv => ?_⟩
  rw [(Has.fresh w 72 (I.flatMap Im.cells).toArray).cell, List.getElem?_toArray, Nat.zero_add]
  exact flat_at im_len I i j x v hx hv
def aI : List Im := [⟨0, 0, 0, 100⟩]
def aS0 : Bs := ⟨aI, []⟩
def aS1 : Bs := ⟨aI, [⟨0, 10, 120⟩]⟩
def aX : Ln := ⟨0, 3, 0, 1, 1⟩
end Go.Proofs.YtklaonoekmhakaaGreat

namespace Go.Proofs.YtklaonoekmhakaaGreat
open Go.RowKit

/-- are two obligations the same, but for places, where these don't count? -/
def oneP (pl : Bool) (a b : Du) : Bool := decide (a.al = b.al) && decide (a.un = b.un) && decide (a.me = b.me) && decide (a.fi = b.fi) && decide (a.la = b.la) && decide (a.ls.length = b.ls.length) && (!pl || decide (a.ls = b.ls))
end Go.Proofs.YtklaonoekmhakaaGreat

namespace Go.Proofs.YtklaonoekmhakaaGreat
open Go.RowKit

/-- are obligations the same? -/
def sameP (L M : List Du) : Bool := decide (L.length = M.length) && (List.range L.length).all fun i => decide ((L[i]?).map (fun a => (M[i]?).map (fun b => oneP true a b)) = some (some true))
/-- the cells of two obligations -/
def D2 (w : World) (b1 o1 : Nat) (x : DuX) (b2 o2 : Nat) (y : DuX) : Prop :=
  w.cell? ⟨b1, o1, none⟩ = some (.slice x.a x.d.ls.length x.cap) ∧ w.cell? ⟨b1, o1 + 1, none⟩ = some (.int .i64 x.d.al) ∧ w.cell? ⟨b1, o1 + 2, none⟩ = some (.int .i64 x.d.un) ∧ w.cell? ⟨b1, o1 + 3, none⟩ = some (.int .i64 x.d.me) ∧ w.cell? ⟨b1, o1 + 4, none⟩ = some (.int .i64 x.d.fi) ∧ w.cell? ⟨b1, o1 + 5, none⟩ = some (.int .i64 x.d.la) ∧ w.cell? ⟨b2, o2, none⟩ = some (.slice y.a y.d.ls.length y.cap) ∧ w.cell? ⟨b2, o2 + 1, none⟩ = some (.int .i64 y.d.al) ∧ w.cell? ⟨b2, o2 + 2, none⟩ = some (.int .i64 y.d.un) ∧ w.cell? ⟨b2, o2 + 3, none⟩ = some (.int .i64 y.d.me) ∧ w.cell? ⟨b2, o2 + 4, none⟩ = some (.int .i64 y.d.fi) ∧ w.cell? ⟨b2, o2 + 5, none⟩ = some (.int .i64 y.d.la)
theorem D2.up {w w' : World} {b1 o1 b2 o2 : Nat} {x y : DuX} (h : D2 w b1 o1 x b2 o2 y) (q : Below w.heap.size w w') : D2 w' b1 o1 x b2 o2 y := by
  obtain ⟨h0, h1, h2, h3, h4, h5, k0, k1, k2, k3, k4, k5⟩ := h
  exact ⟨kcell q h0, kcell q h1, kcell q h2, kcell q h3, kcell q h4, kcell q h5, kcell q k0, kcell q k1, kcell q k2, kcell q k3, kcell q k4, kcell q k5⟩
theorem D2.drew {w : World} {b1 o1 b2 o2 : Nat} {x y : DuX} (h : D2 w b1 o1 x b2 o2 y) : D2 w.drew b1 o1 x b2 o2 y := h
end Go.Proofs.YtklaonoekmhakaaGreat

namespace Go.Proofs.YtklaonoekmhakaaGreat
open Go.RowKit

theorem rws_fresh {α : Type} {c : α → List Value} {z : Nat} (hz : ∀ x, (c x).length = z) (w : World) (T : Nat) (l : List α) (cs : Array Value) (hcs : cs = (l.flatMap c).toArray) : Rws c z (w.alloc (.cells cs T)) (some ⟨w.heap.size, 0, none⟩) l := by
  subst hcs
  refine .inr ⟨_, _, rfl, fun i x hx j v hv => ?_⟩
  rw [(Has.fresh w T (l.flatMap c).toArray).cell, List.getElem?_toArray, Nat.zero_add]
  exact flat_at hz l i j x v hx hv
def kI : List Im := [⟨0, 0, 0, 10⟩, ⟨1, 3, 1, 5⟩]
def kL : List Ln := [⟨0, 1, 9, 5, 6⟩, ⟨1, 2, 0, 4, 4⟩, ⟨0, 1, 0, 1, 1⟩, ⟨1, 1, 0, 9, 9⟩]
def kS : Bs := ⟨kI, []⟩
def kD : List Du := [⟨[0], 10, 1, 0, 5, 6⟩, ⟨[1, 3], 15, 3, 1, 4, 9⟩, ⟨[2], 10, 1, 0, 1, 1⟩]
/-- the obligations that awake writes out -/
def kY (s : Nat) : List DuX := [⟨some ⟨s, 0, none⟩, 1, ⟨[0], 10, 1, 0, 5, 6⟩⟩, ⟨some ⟨s + 1, 0, none⟩, 2, ⟨[1, 3], 15, 3, 1, 4, 9⟩⟩, ⟨some ⟨s + 2, 0, none⟩, 1, ⟨[2], 10, 1, 0, 1, 1⟩⟩]
end Go.Proofs.YtklaonoekmhakaaGreat

namespace Go.Proofs.YtklaonoekmhakaaGreat
open Go.RowKit

def awT : Tm := ⟨[⟨0, 0, 0, 60⟩, ⟨0, 0, 1, 60⟩], [⟨0, 1, 100, 1, 10⟩, ⟨1, 1, 0, 3, 3⟩], [], 0, 1⟩
def awU : Tm := ⟨[⟨0, 0, 0, 60⟩, ⟨0, 0, 1, 60⟩], [], [], 0, 1⟩
theorem aw1 : madeE awT = 0 := by decide +kernel
theorem aw2 : madeE awU = 1 := by decide +kernel
def awC : Ct := (askT awT).C
theorem aw3 : awC.all 5 = 75 ∧ awC.onwE 5 20 = 0 := by decide +kernel
def awD : Ct := awC.onwS 5 20
theorem aw4 : awD.afrE 4 1 = 11 ∧ awD.telE 2 1 1 = 5 ∧ awD.afrE 6 (-121) = 1 := by decide +kernel
theorem aw5 : awD.N = 120 ∧ awD.la = 5 ∧ awD.n = 2 := by decide +kernel
theorem aw6 : awD.altA 0 = 70 ∧ awD.altA 1 = 50 ∧ awD.earA 0 10 = 70 ∧ awD.earA 0 5 = 25 := by decide +kernel
theorem aw7 : awD.has 1 = true ∧ (awD.tr 1).d.me = 1 := by decide +kernel
theorem aw8 : awD.afrS 4 1 = awD ∧ awD.telS 2 1 1 = awD ∧ awD.afrS 6 (-121) = awD := by
  refine ⟨?_, ?_, ?_⟩
  · unfold Ct.afrS; rw [if_neg (by rw [aw4.1]; decide)]
  · unfold Ct.telS; rw [if_pos (.inr (by rw [aw5.2.2]; decide))]
  · unfold Ct.afrS; rw [if_neg (by rw [aw4.2.2]; decide)]
theorem awT_g : TmG awT := ⟨by simp [awT, imG, Am], by simp [awT, lnG, Am], by simp [awT], by simp [awT, Am], by simp [awT, Am]⟩
theorem awU_g : TmG awU := ⟨by simp [awU, imG, Am], by simp [awU], by simp [awU], by simp [awU, Am], by simp [awU, Am]⟩
set_option maxRecDepth 100000 in
set_option maxHeartbeats 8000000 in
theorem awake16_any {Cf : World → World → Nat → Ct → Prop} (K : CfK Cf) (N : CfN Cf) : Aw16 := by
  intro w
  have HK := Lib.hid K
  have HMade := Lib.hid (fun (W : World) (p : TmP) (h : TmA W p awT) => made16_any N h awT_g (by decide) (by decide))
  have HMadU := Lib.hid (fun (W : World) (p : TmP) (h : TmA W p awU) => made16_any N h awU_g (by decide) (by decide))
  unfold MadeR at HMade HMadU
  rw [aw1] at HMade
  rw [aw2] at HMadU
  rw [show (askT awT).C = awC from rfl] at HMade
  clear K N
  go_enter Tryz.func8, Tryz.ntmps8
  go_wp2_with fail
  obtain ⟨W1, hW1⟩ : ∃ W1, W1 = w.alloc (.cells #[.int .i64 0, .int .i64 0, .int .i64 0, .int .i64 60, .int .i64 0, .int .i64 0, .int .i64 1, .int .i64 60] 72) := ⟨_, rfl⟩
  obtain ⟨W2, hW2⟩ : ∃ W2, W2 = W1.alloc (.cells #[.int .i64 0, .int .i64 1, .int .i64 100, .int .i64 1, .int .i64 10, .int .i64 1, .int .i64 1, .int .i64 0, .int .i64 3, .int .i64 3] 74) := ⟨_, rfl⟩
  have z1 : W1.heap.size = w.heap.size + 1 := by rw [hW1]; simp
  have z2 : W2.heap.size = w.heap.size + 1 + 1 := by rw [hW2]; simp; omega
  have b1 : Below w.heap.size w W1 := by rw [hW1]; exact boxed _ _
  have b2 : Below W1.heap.size W1 W2 := by rw [hW2]; exact boxed _ _
  have hI : ItA W2 (some ⟨w.heap.size, 0, none⟩) awT.I := by
    have := ita_fresh w awT.I _ rfl
    exact Rws.up (by rw [hW1]; exact this) b2
  have hL : LnA W2 (some ⟨W1.heap.size, 0, none⟩) awT.l := by rw [hW2]; exact rws_fresh (c := Ln.cells) (fun _ => rfl) W1 74 awT.l _ rfl
  obtain ⟨W3, hW3⟩ : ∃ W3, W3 = W2.alloc (.cells #[.slice (some ⟨w.heap.size, 0, none⟩) 2 2, .slice (some ⟨W1.heap.size, 0, none⟩) 2 2, .slice none 0 0, .int .i64 0, .int .i64 1] 26) := ⟨_, rfl⟩
  have b3 : Below W2.heap.size W2 W3 := by rw [hW3]; exact boxed _ _
  have hX : Has W3 W2.heap.size 26 #[.slice (some ⟨w.heap.size, 0, none⟩) 2 2, .slice (some ⟨W1.heap.size, 0, none⟩) 2 2, .slice none 0 0, .int .i64 0, .int .i64 1] := by rw [hW3]; exact Has.fresh _ _ _
  rw [← hW1, ← z1, ← hW2, z1, ← z2]
  rw [← z1, ← hW3]
  have hM := HMade.out W3 ⟨some ⟨w.heap.size, 0, none⟩, 2, some ⟨W1.heap.size, 0, none⟩, 2, none, 0⟩ ⟨hI.up b3, fun e => (by cases e), hL.up b3, .inl rfl⟩
  have HX3 := Lib.hid hX
  have HI3 : Hid (ItA W3 (some ⟨w.heap.size, 0, none⟩) awU.I) := Lib.hid (hI.up b3)
  have HB3 := Lib.hid (up2 b1 (up2 b2 b3))
  have HM3 := Lib.hid hM
  obtain ⟨p0, hp0⟩ : ∃ z : Addr, z = ⟨w.heap.size, 0, none⟩ := ⟨_, rfl⟩
  obtain ⟨p1, hp1⟩ : ∃ z : Addr, z = ⟨W1.heap.size, 0, none⟩ := ⟨_, rfl⟩
  obtain ⟨xp, hxp⟩ : ∃ z, z = W2.heap.size := ⟨_, rfl⟩
  rw [← hp0, ← hp1] at HX3 HM3
  rw [← hxp] at HX3
  rw [← hp0] at HI3
  rw [← hp0, ← hp1, ← hxp]
  unfold Tm.val awT at HM3
  simp only [List.length_cons, List.length_nil] at HM3
  clear hM hX hI hL b1 b2 b3 z1 z2 hW1 hW2 hW3 hp0 hp1 hxp HMade
  refine HM3.out.mono ?_
  rintro e w4 (⟨q, _⟩ | ⟨_, w0, c, hb, rfl, hc⟩)
  · exact absurd rfl q
  have HC4 := Lib.hid hc
  have HB4 := Lib.hid (up2 hb (HK.out.bel hc))
  have hx := HX3.out.up HB4.out
  have HX4 := Lib.hid hx
  have x0 := hx.cell 0
  simp at x0
  have HB0 := Lib.hid (up2 HB3.out hb)
  have HU4 := Lib.hid (fun (W : World) (q : Below w4.heap.size w4 W) => HMadU.out W ⟨some p0, 2, none, 0, none, 0⟩ ⟨HI3.out.up (up2 HB4.out q), fun e => (by cases e), .inl rfl, .inl rfl⟩)
  unfold Tm.val awU at HU4
  simp only [List.length_cons, List.length_nil] at HU4
  clear hb hc hx HMadU HM3
  go_wp2_with fail
  refine (HU4.out _ (Below.refl _ _)).mono ?_
  rintro e w5 (⟨_, rfl, hb⟩ | ⟨q, _⟩)
  rotate_left
  · exact absurd q (by decide)
  have HC5 := Lib.hid (HK.out.up HC4.out hb)
  clear hb x0 HU4
  go_wp2_with fail
  refine (HK.out.all 5 HC5.out).mono ?_
  rintro e w6 ⟨rfl, hb⟩
  rw [aw3.1]
  have HC6 := Lib.hid (HK.out.up HC5.out hb)
  clear hb
  go_wp2_with fail
  refine (HK.out.onward 5 20 HC6.out (am_small (by decide) (by decide))).mono ?_
  rintro e w7 ⟨rfl, hs⟩
  rw [aw3.2]
  rw [show awC.onwS 5 20 = awD from rfl] at hs
  have HC7 := Lib.hid hs
  clear hs
  go_wp2_with fail
  refine (HK.out.afresh 4 1 HC7.out (am_small (by decide) (by decide))).mono ?_
  rintro e w8 ⟨rfl, hs⟩
  rw [aw4.1]
  rw [aw8.1] at hs
  have HC8 := Lib.hid hs
  clear hs
  go_wp2_with fail
  refine (HK.out.tell 2 1 1 HC8.out (am_small (by decide) (by decide))).mono ?_
  rintro e w9 ⟨rfl, hs⟩
  rw [aw4.2.1]
  rw [aw8.2.1] at hs
  have HC9 := Lib.hid hs
  clear hs
  go_wp2_with fail
  have HD := Lib.hid (HK.out.duty 1 HC9.out)
  unfold DutR at HD
  refine HD.out.mono ?_
  rintro e w10 ⟨hb, ⟨q, _⟩ | ⟨_, da, dc, rfl, _⟩⟩
  · rw [aw7.1] at q; cases q
  have HC10 := Lib.hid (HK.out.up HC9.out hb)
  rw [show ((1 : Int)).toNat = 1 from rfl]
  unfold Dt.val
  rw [aw7.2]
  generalize (awD.tr 1).d.ls.length = dn
  generalize (awD.tr 1).d.al = al
  generalize (awD.tr 1).d.un = un
  generalize (awD.tr 1).d.fi = fi
  generalize (awD.tr 1).d.la = dl
  clear hb HD
  go_wp2_with fail
  obtain ⟨w11, hw11⟩ : ∃ W, W = w10.alloc (.cells #[.slice da dn dc, .int .i64 al, .int .i64 un, .int .i64 1, .int .i64 fi, .int .i64 dl] 51) := ⟨_, rfl⟩
  have HC11 : Hid (Cf w0 w11 c awD) := Lib.hid (HK.out.up HC10.out (by rw [hw11]; exact boxed _ _))
  have HX11 : Hid (Has w11 w10.heap.size 51 #[.slice da dn dc, .int .i64 al, .int .i64 un, .int .i64 1, .int .i64 fi, .int .i64 dl]) := Lib.hid (by rw [hw11]; exact Has.fresh _ _ _)
  obtain ⟨dp, hdp⟩ : ∃ z, z = w10.heap.size := ⟨_, rfl⟩
  rw [← hdp] at HX11 ⊢
  rw [← hw11]
  clear hw11 hdp
  refine (HK.out.allot 0 HC11.out).mono ?_
  rintro e w12 ⟨rfl, hb⟩
  rw [aw6.1]
  have HC12 := Lib.hid (HK.out.up HC11.out hb)
  have HX12 := Lib.hid (HX11.out.up hb)
  clear hb
  go_wp2_with fail
  refine (HK.out.allot 1 HC12.out).mono ?_
  rintro e w13 ⟨rfl, hb⟩
  rw [aw6.2.1]
  have HC13 := Lib.hid (HK.out.up HC12.out hb)
  have HX13 := Lib.hid (HX12.out.up hb)
  clear hb
  go_wp2_with fail
  refine (HK.out.price HC13.out).mono ?_
  rintro e w14 ⟨rfl, hb⟩
  rw [aw5.1]
  have HC14 := Lib.hid (HK.out.up HC13.out hb)
  have HX14 := Lib.hid (HX13.out.up hb)
  clear hb
  go_wp2_with fail
  refine (HK.out.day HC14.out).mono ?_
  rintro e w15 ⟨rfl, hb⟩
  rw [aw5.2.1]
  have HC15 := Lib.hid (HK.out.up HC14.out hb)
  have HX15 := Lib.hid (HX14.out.up hb)
  clear hb
  go_wp2_with fail
  refine (HK.out.many HC15.out).mono ?_
  rintro e w16 ⟨rfl, hb⟩
  rw [aw5.2.2]
  have HC16 := Lib.hid (HK.out.up HC15.out hb)
  have HX16 := Lib.hid (HX15.out.up hb)
  clear hb
  go_wp2_with fail
  refine (HK.out.earned 0 10 HC16.out).mono ?_
  rintro e w17 ⟨rfl, hb⟩
  rw [aw6.2.2.1]
  have HC17 := Lib.hid (HK.out.up HC16.out hb)
  have HX17 := Lib.hid (HX16.out.up hb)
  clear hb
  go_wp2_with fail
  refine (HK.out.earned 0 5 HC17.out).mono ?_
  rintro e w18 ⟨rfl, hb⟩
  rw [aw6.2.2.2]
  have HC18 := Lib.hid (HK.out.up HC17.out hb)
  have HX18 := Lib.hid (HX17.out.up hb)
  have hx := HX18.out
  have x3 := hx.cell 3
  simp at x3
  clear hb hx
  go_wp2_with fail
  refine (HK.out.afresh 6 (-121) HC18.out (am_small (by decide) (by decide))).mono ?_
  rintro e w19 ⟨rfl, hs⟩
  rw [aw4.2.2]
  have HC19 := Lib.hid hs
  clear hs
  go_wp2_with fail
  go_ret
  exact ⟨rfl, up2 HB0.out (HK.out.bel HC19.out)⟩
end Go.Proofs.YtklaonoekmhakaaGreat

namespace Go.Proofs.YtklaonoekmhakaaGreat
open Go.RowKit

theorem whole16_core (t : Tm) (p : TmP) (a : Option Addr) (cap : Nat) (l : List Op4) (early late : Int) (w : World) (h : TmA w p t) (g : TmG t) (hR : O4A w a l) (hAm : AmP l) :
    Calls Tryz.prog 4 #[t.val p, .slice a l.length cap, .int .i64 early, .int .i64 late] w fun e w' => e = .returned (.bool true) ∧ Below w.heap.size w w' :=
  whole16_law (cfk_of pck) cxnew_any (awake16_any (cfk_of pck) cxnew_any) t p a cap l early late w h g hR hAm
end Go.Proofs.YtklaonoekmhakaaGreat
