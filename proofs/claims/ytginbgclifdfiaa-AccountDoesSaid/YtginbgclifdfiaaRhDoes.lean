/- Proved: AccountDoes answers true whatever comes in: operation by operation, what a ledger answers, its entries, movements, balances and totals are as the document says; the input reads as it did. -/
import Derived.Test.YtginbgclifdfiaaRhE
import Derived.Deep.CutBlock
import Derived.Test.YtginbgclifdfiaaRows
import Derived.WalkKit
import Derived.ProofKit
import Derived.OpenShut
import Derived.ShutString
import Derived.ChangeOld
import Derived.SizedLaws
import Derived.Below
namespace Go.Proofs.Ytginbgclifdfiaa
open Go.RowKit

/-- while an operation is looked at: both ledgers, and its box -/
structure Sx (w wr : World) (X : Nat → Prop) (p r : Nat) (S : Ld) (xb : Nat) (x : Oq) : Prop where
  du : Du X wr p r S S
  bel : Below w.heap.size w wr
  has : Has wr xb 34 #[.int .i64 x.d, .int .i64 x.q, .int .i64 x.i, .slice x.a x.ps.length x.cap]
theorem Sx.up {w wr w' : World} {X : Nat → Prop} {p r : Nat} {S : Ld} {xb : Nat} {x : Oq} (h : Sx w wr X p r S xb x) (q : Below wr.heap.size wr w') : Sx w w' X p r S xb x :=
  ⟨h.du.up q, up2 h.bel q, h.has.up q⟩
def Rk (w : World) (r : Nat) (S : Ld) (a : Option Addr) (c : Nat) : Prop := w.cell? ⟨r, 1, none⟩ = some (.int .i64 (S.op : Int)) ∧ w.cell? ⟨r, 2, none⟩ = some (.slice a S.L.length c)
def Bx (w : World) (yb xb : Nat) (y : Po) (x : Oq) : Prop := w.cell? ⟨yb, 0, none⟩ = some (.int .i64 y.a) ∧ w.cell? ⟨yb, 1, none⟩ = some (.int .i64 y.c) ∧ w.cell? ⟨xb, 1, none⟩ = some (.int .i64 x.q)
theorem Bx.up {w w' : World} {yb xb : Nat} {y : Po} {x : Oq} (h : Bx w yb xb y x) (q : Below w.heap.size w w') : Bx w' yb xb y x := ⟨kcell q h.1, kcell q h.2.1, kcell q h.2.2⟩
theorem PsA.lt {w : World} {a : Option Addr} {ps : List Po} (h : PsA w a ps) (ad : Addr) (hne : ps ≠ []) (e : a = some ad) : ad.block < w.heap.size := by
  have := h.old (O := fun b => w.heap.size ≤ b) (fun b hb => hb) hne ad e
  omega
/-- behind the program's call: what it told, the reference not yet -/
structure Sy (w wr : World) (X : Nat → Prop) (p r : Nat) (S S' : Ld) (xb : Nat) (x : Oq) : Prop where
  du : Du X wr p r S S'
  bel : Below w.heap.size w wr
  has : Has wr xb 34 #[.int .i64 x.d, .int .i64 x.q, .int .i64 x.i, .slice x.a x.ps.length x.cap]
theorem Sy.on {w wr w' : World} {p r : Nat} {S S' T T' : Ld} {xb : Nat} {x : Oq} (h : Sy w wr (fun b => b < w.heap.size ∨ b = xb) p r S S' xb x) (hd : Du (fun b => b < w.heap.size ∨ b = xb) w' p r T T') (hk : Kp (fun b => ¬ (b < w.heap.size ∨ b = xb)) wr w') : Sy w w' (fun b => b < w.heap.size ∨ b = xb) p r T T' xb x := by
  refine ⟨hd, h.bel.trans (hk.below h.bel.size fun b hb => ?_), (hk.block xb h.has.lt fun z => z (.inr rfl)).trans h.has⟩
  have : ¬ b < w.heap.size := fun z => hb (.inl z)
  omega
theorem Sy.lt {w wr : World} {p r : Nat} {S S' : Ld} {xb : Nat} {x : Oq} (h : Sy w wr (fun b => b < w.heap.size ∨ b = xb) p r S S' xb x) : ∀ b, (b < w.heap.size ∨ b = xb) → b < wr.heap.size := fun b hb => by
  have := h.bel.size
  have := h.has.lt
  rcases hb with hb | rfl <;> omega
set_option maxRecDepth 100000 in
set_option maxHeartbeats 32000000 in
theorem does_law (w : World) (n : Int) (a : Option Addr) (cap : Nat) (l : List Oq) (who con q : Int) (h : OpsA w a l) (hm : l.length ≤ 1000000000000000) (hw : Am who) (hc : Am con) :
    Calls Try.prog 3 #[.int .i64 n, .slice a l.length cap, .int .i64 who, .int .i64 con, .int .i64 q] w fun e w' => e = .returned (.bool true) ∧ Below w.heap.size w w' := by
  have H := Lib.hid h
  have HWho := Lib.hid hw
  have HCon := Lib.hid hc
  clear h hw hc
  go_enter Try.func3, Try.ntmps3
  go_wp2_with fail
  refine (awake_any9 w).mono ?_
  rintro e w1 ⟨rfl, hb⟩
  have HB1 := Lib.hid hb
  clear hb
  go_wp2_with fail
  refine (large_any9 n a cap l (H.out.up HB1.out) hm).mono ?_
  rintro e w1' ⟨rfl, rfl⟩
  cases hl : largeB n l
  · by_cases hn : 1 ≤ n ∧ n ≤ 240
    · obtain ⟨k, rfl⟩ : ∃ k : Nat, n = k := ⟨n.toNat, by omega⟩
      have hlen : l.length ≤ 24 := by
        unfold largeB at hl
        simp at hl
        omega
      have HPl : Hid (∀ x ∈ l, x.ps.length ≤ 40) := fun x hx => by
        unfold largeB at hl
        simp at hl
        exact hl.1.1 x hx
      have HNew := Lib.hid (new_yes (w := w1) k (by omega) (by omega))
      have hk1 : IntKind.i64.wrap ((k : Int) - 1) = (k : Int) - 1 := IntWalk.i64_in _ (by omega)
      have HK1 := Lib.hid hk1
      have HGn : Hid (∀ W, Calls Try.prog 10 #[.int .i64 (k : Int)] W fun e w' => e = .returned (.tuple #[.pointer (some ⟨W.heap.size, 0, none⟩), .int .i64 0]) ∧ Rl w' W.heap.size ⟨k, 0, []⟩ (Own9 W w') ∧ Below W.heap.size W w') := fun W => gnew_yes k (by omega) (by omega)
      clear hl hn hk1
      go_wp2_with fail
      refine HNew.out.mono ?_
      rintro e w2 ⟨rfl, h1, h2⟩
      obtain ⟨p, hp⟩ : ∃ p, p = w1.heap.size + 1 := ⟨_, rfl⟩
      rw [← hp] at h1 ⊢
      have HL2 := Lib.hid h1
      have HB2 := Lib.hid h2
      clear h1 h2 hp
      go_wp2_with fail
      refine (HGn.out w2).mono ?_
      rintro e w3 ⟨rfl, h1, h2⟩
      obtain ⟨r, hr⟩ : ∃ r, r = w2.heap.size := ⟨_, rfl⟩
      rw [← hr] at h1 ⊢
      have HDu : Hid (Du (fun b => b < w.heap.size) w3 p r ⟨k, 0, []⟩ ⟨k, 0, []⟩) := ⟨Own9 w1 w2, Own9 w2 w3, HL2.out.up h2, h1, fun b h1 h2 => by have := h1.2; have := h2.1; omega, fun b hb => ⟨fun z => by have := HB1.out.size; have := z.1; omega, fun z => by have := HB1.out.size; have := HB2.out.size; have := z.1; omega⟩⟩
      have HBel : Hid (Below w.heap.size w w3) := up2 HB1.out (HB2.out.trans (h2.mono HB2.out.size))
      clear h1 h2 hr
      go_wp2_with fail
      go_loopw [15] (fun i wr => ∃ (j : Nat) (S : Ld), j ≤ l.length ∧ i = .int .i64 (j : Int) ∧ Du (fun b => b < w.heap.size) wr p r S S ∧ Below w.heap.size w wr) (fun i _ => l.length - (intOf i).toNat)
      case atStart => exact ⟨0, _, Nat.zero_le _, rfl, HDu.out, HBel.out⟩
      case round =>
        obtain ⟨j, S, hj, rfl, hD, hbw⟩ := hrel
        have HD := Lib.hid hD
        have HBw := Lib.hid hbw
        by_cases hlt : j < l.length
        · obtain ⟨x, hx⟩ : ∃ x, l[j]? = some x := ⟨l[j], List.getElem?_eq_getElem hlt⟩
          obtain ⟨b, o, rfl, hcell⟩ : ∃ b o, a = some ⟨b, o, none⟩ ∧ (w.cell? ⟨b, o + j * 4, none⟩ = some (.int .i64 x.d) ∧ w.cell? ⟨b, o + j * 4 + 1, none⟩ = some (.int .i64 x.q) ∧ w.cell? ⟨b, o + j * 4 + 2, none⟩ = some (.int .i64 x.i) ∧ w.cell? ⟨b, o + j * 4 + 3, none⟩ = some x.v) := by
            rcases H.out.2 with h | ⟨b, o, e, h⟩
            · rw [h] at hx; simp at hx
            · exact ⟨b, o, e, h j x hx⟩
          have d0 := kcell hbw hcell.1
          have d1 := kcell hbw hcell.2.1
          have d2 := kcell hbw hcell.2.2.1
          have d3 := kcell hbw hcell.2.2.2
          unfold Oq.v at d3
          have hox := H.out.1 x (List.mem_of_getElem? hx)
          have HOx := Lib.hid hox
          have HP40 := Lib.hid (HPl.out x (List.mem_of_getElem? hx))
          obtain ⟨W1, hW1⟩ : ∃ W1, W1 = wr.alloc (.cells #[.int .i64 x.d, .int .i64 x.q, .int .i64 x.i, .slice x.a x.ps.length x.cap] 34) := ⟨_, rfl⟩
          have hbx : Below wr.heap.size wr W1 := by rw [hW1]; exact boxed _ _
          have hX : Has W1 wr.heap.size 34 #[.int .i64 x.d, .int .i64 x.q, .int .i64 x.i, .slice x.a x.ps.length x.cap] := by rw [hW1]; exact Has.fresh _ _ _
          have x0 := hX.cell 0
          have x1 := hX.cell 1
          have x2 := hX.cell 2
          have x3 := hX.cell 3
          have hsy : Sy w W1 (fun b => b < w.heap.size ∨ b = wr.heap.size) p r S S wr.heap.size x := ⟨hD.box hbx, up2 hbw hbx, hX⟩
          have HSy := Lib.hid hsy
          have HDo := Lib.hid (du_do x hsy.du hsy.lt (hox.up (up2 hbw hbx)) (fun ad hne e => .inl (hox.1.lt ad hne e)))
          unfold Oq.cells Oq.v at HDo
          have HW1 := Lib.hid hW1
          clear hx hcell hbw hox hW1 hbx hX hD hsy
          go_wp2_with fail
          rw [← HW1.out]
          refine HDo.out.mono ?_
          rintro e w4 ⟨rfl, hd4, hk4⟩
          have HS4 := Lib.hid (HSy.out.on hd4 hk4)
          obtain ⟨xb, hxb⟩ : ∃ xb, xb = wr.heap.size := ⟨_, rfl⟩
          rw [← hxb] at HS4 ⊢
          clear hd4 hk4 d0 d1 d2 d3 x0 x1 x2 x3 HDo HSy HW1 hxb
          have y0 := HS4.out.has.cell 0
          go_upto_block 2 with fail
          go_cut [19, 20] (fun s19 s20 wx => s19 = .int .i64 (opN S x) ∧ s20 = .int .i64 (opE S x) ∧ Hid (Sx w wx (fun b => b < w.heap.size ∨ b = xb) p r (opS S x) xb x))
          case first =>
            as_aux_lemma =>
              have y1 := HS4.out.has.cell 1
              have y2 := HS4.out.has.cell 2
              have y3 := HS4.out.has.cell 3
              by_cases h0 : x.d = 0
              · have e0 : (x.d == 0) = true := by rw [h0]; rfl
                have HR : Hid (opN S x = postN S x.q x.ps ∧ opE S x = postE S x.q x.ps ∧ opS S x = postS S x.q x.ps) := ⟨by unfold opN; rw [if_pos h0], by unfold opE; rw [if_pos h0], by unfold opS; rw [if_pos h0]⟩
                have HPo := Lib.hid (du_post x.q x.a x.cap x.ps HS4.out.du HS4.out.lt (HOx.out.1.up HS4.out.bel) HOx.out.2)
                clear h0
                go_wp2_with fail
                refine HPo.out.mono ?_
                rintro e w5 ⟨rfl, hd5, hk5⟩
                have HS5 := Lib.hid (HS4.out.on hd5 hk5)
                clear hd5 hk5 y0 y1 y2 y3
                go_wp2_with fail
                go_meet
                refine ⟨by rw [HR.out.1], by rw [HR.out.2.1], ?_⟩
                have h := HS5.out
                rw [HR.out.2.2] at h ⊢
                exact ⟨h.du, h.bel, h.has⟩
              · have e0 : (x.d == 0) = false := by simpa using h0
                by_cases h1 : x.d = 1
                · have e1 : (x.d == 1) = true := by rw [h1]; rfl
                  have HR : Hid (opN S x = revN S x.i x.q ∧ opE S x = revE S x.i x.q ∧ opS S x = revS S x.i x.q) := ⟨by unfold opN; rw [if_neg h0, if_pos h1], by unfold opE; rw [if_neg h0, if_pos h1], by unfold opS; rw [if_neg h0, if_pos h1]⟩
                  have HPo := Lib.hid (du_rev x.i x.q HS4.out.du HS4.out.lt)
                  clear h0 h1
                  go_wp2_with fail
                  refine HPo.out.mono ?_
                  rintro e w5 ⟨rfl, hd5, hk5⟩
                  have HS5 := Lib.hid (HS4.out.on hd5 hk5)
                  clear hd5 hk5 y0 y1 y2 y3
                  go_wp2_with fail
                  go_meet
                  refine ⟨by rw [HR.out.1], by rw [HR.out.2.1], ?_⟩
                  have h := HS5.out
                  rw [HR.out.2.2] at h ⊢
                  exact ⟨h.du, h.bel, h.has⟩
                · have e1 : (x.d == 1) = false := by simpa using h1
                  have HR : Hid (opN S x = 0 ∧ opE S x = cloE S x.q ∧ opS S x = cloS S x.q) := ⟨by unfold opN; rw [if_neg h0, if_neg h1], by unfold opE; rw [if_neg h0, if_neg h1], by unfold opS; rw [if_neg h0, if_neg h1]⟩
                  have HPo := Lib.hid (du_clo x.q HS4.out.du HS4.out.lt)
                  clear h0 h1
                  go_wp2_with fail
                  refine HPo.out.mono ?_
                  rintro e w5 ⟨rfl, hd5, hk5⟩
                  have HS5 := Lib.hid (HS4.out.on hd5 hk5)
                  clear hd5 hk5 y0 y1 y2 y3
                  go_wp2_with fail
                  go_meet
                  refine ⟨by rw [HR.out.1], by rw [HR.out.2.1], ?_⟩
                  have h := HS5.out
                  rw [HR.out.2.2] at h ⊢
                  exact ⟨h.du, h.bel, h.has⟩
          case rest =>
            obtain ⟨rfl, rfl, HSx⟩ := hcut
            obtain ⟨T, hT⟩ : ∃ T, T = opS S x := ⟨_, rfl⟩
            rw [← hT] at HSx
            clear HS4 y0 hT
            as_aux_lemma =>
              have HOp := Lib.hid (du_open (HSx.out.up (Below.refl _ _).drew).du)
              have HMn := Lib.hid (du_many (HSx.out.up (Below.refl _ _).drew).du)
              obtain ⟨ra, rc, hrc⟩ := HSx.out.du.rc
              have c1 := hrc.2.1
              have c2 := hrc.2.2
              have HRk : Hid (Rk wc.drew r T ra rc) := ⟨kcell (Below.refl _ _).drew c1, kcell (Below.refl _ _).drew c2⟩
              clear hrc
              go_wp2_with fail
              go_region_held3 (fun w' => w'.cell? ⟨r, 1, none⟩ = some (.int .i64 (T.op : Int)) ∧ w'.cell? ⟨r, 2, none⟩ = some (.slice ra T.L.length rc))
                (first | (change Rk _ r T ra rc; with_reducible exact HRk.out))
                (first | ((with_reducible refine (HOp.out).mono ?_); rintro e' u1 ⟨rfl, rfl⟩) | ((with_reducible refine (HMn.out).mono ?_); rintro e' u1 ⟨rfl, rfl⟩))
              all_goals
                have HSd := Lib.hid (HSx.out.up (Below.refl _ _).drew)
                have HQ1 := Lib.hid (du_tot who q HSd.out.du HWho.out)
                as_aux_lemma =>
                  clear c1 c2
                  go_wp2_with fail
                  refine HQ1.out.mono ?_
                  rintro e v1 ⟨rfl, hb⟩
                  have HV1 := Lib.hid (HSd.out.up hb)
                  clear hb
                  go_wp2_with fail
                  refine (dg_tot who q HV1.out.du).mono ?_
                  rintro e v2 ⟨rfl, hb⟩
                  have HV2 := Lib.hid (HV1.out.up hb)
                  clear hb
                  go_wp2_with fail
                  refine (du_mov who con q HV2.out.du HWho.out HCon.out).mono ?_
                  rintro e v3 ⟨rfl, hb⟩
                  have HV3 := Lib.hid (HV2.out.up hb)
                  clear hb
                  go_wp2_with fail
                  refine (dg_mov who con q HV3.out.du).mono ?_
                  rintro e v4 ⟨rfl, hb⟩
                  have HV4 := Lib.hid (HV3.out.up hb)
                  clear hb
                  go_wp2_with fail
                  refine (du_bal who con q HV4.out.du HWho.out HCon.out).mono ?_
                  rintro e v5 ⟨rfl, hb⟩
                  have HV5 := Lib.hid (HV4.out.up hb)
                  clear hb
                  go_wp2_with fail
                  refine (dg_bal who con q HV5.out.du).mono ?_
                  rintro e v6 ⟨rfl, hb⟩
                  have HV6 := Lib.hid (HV5.out.up hb)
                  have y3 := HV6.out.has.cell 3
                  obtain ⟨xa, hxa⟩ : ∃ xa, xa = x.a := ⟨_, rfl⟩
                  have HXa := Lib.hid hxa
                  rw [← hxa] at y3
                  clear hb HQ1 HRk HOp HMn hxa
                  go_wp2_with fail
                  clear y3
                  as_aux_lemma =>
                    go_loopw [182] (fun i wr => ∃ t : Nat, t ≤ x.ps.length ∧ i = .int .i64 (t : Int) ∧ Sx w wr (fun b => b < w.heap.size ∨ b = xb) p r T xb x) (fun i _ => x.ps.length - (intOf i).toNat)
                    case atStart => exact ⟨0, Nat.zero_le _, rfl, HV6.out⟩
                    case round =>
                      obtain ⟨t, ht, rfl, hS⟩ := hrel
                      have HSt := Lib.hid hS
                      have hp40 := HP40.out
                      clear hS
                      by_cases htl : t < x.ps.length
                      · obtain ⟨y, hy⟩ : ∃ y, x.ps[t]? = some y := ⟨_, List.getElem?_eq_getElem htl⟩
                        obtain ⟨b9, o9, hxa, z0, z1, z2⟩ := (HOx.out.1.up HSt.out.bel).at hy
                        have hmy := HOx.out.2 y (List.mem_of_getElem? hy)
                        have HMy := Lib.hid hmy
                        obtain ⟨W2, hW2⟩ : ∃ W2, W2 = wr.alloc (.cells #[.int .i64 y.a, .int .i64 y.c, .int .i64 y.m] 48) := ⟨_, rfl⟩
                        have hb2 : Below wr.heap.size wr W2 := by rw [hW2]; exact boxed _ _
                        have hY : Has W2 wr.heap.size 48 #[.int .i64 y.a, .int .i64 y.c, .int .i64 y.m] := by rw [hW2]; exact Has.fresh _ _ _
                        have HS2 := Lib.hid ((HSt.out.up hb2).up (Below.refl _ _).drew)
                        have g0 : W2.cell? ⟨wr.heap.size, 0, none⟩ = some (.int .i64 y.a) := hY.cell 0
                        have g1 : W2.cell? ⟨wr.heap.size, 1, none⟩ = some (.int .i64 y.c) := hY.cell 1
                        have g2 : W2.cell? ⟨xb, 1, none⟩ = some (.int .i64 x.q) := (HSt.out.up hb2).has.cell 1
                        have HBx0 : Hid (Bx W2.drew wr.heap.size xb y x) := ⟨kcell (Below.refl _ _).drew g0, kcell (Below.refl _ _).drew g1, kcell (Below.refl _ _).drew g2⟩
                        have HM1 := Lib.hid (du_mov y.a y.c x.q HS2.out.du hmy.1 hmy.2.1)
                        have HW2 := Lib.hid hW2
                        have hk1 := HK1.out
                        have ht0 : (0 : Int) ≤ (t : Int) := by omega
                        have ht1 : (t : Int) < (x.ps.length : Int) := by omega
                        have hx9 := HXa.out.trans hxa
                        clear hy hmy hW2 hb2 hY hxa
                        subst hx9
                        as_aux_lemma =>
                          go_wp2_with fail
                          rw [← HW2.out]
                          go_region_held3 (fun w' => w'.cell? ⟨wr.heap.size, 0, none⟩ = some (.int .i64 y.a) ∧ w'.cell? ⟨wr.heap.size, 1, none⟩ = some (.int .i64 y.c) ∧ w'.cell? ⟨xb, 1, none⟩ = some (.int .i64 x.q))
                            (first | (change Bx _ wr.heap.size xb y x; (first | with_reducible exact HBx0.out | with_reducible exact kb1.out | with_reducible exact kb2.out | with_reducible exact kb3.out | with_reducible exact kb4.out)))
                            (first | ((with_reducible refine (HM1.out).mono ?_); rintro e' u1 ⟨rfl, hb⟩; have ks1 := Lib.hid (HS2.out.up hb); have kb1 := Lib.hid (HBx0.out.up hb); have HM2 := Lib.hid (dg_mov y.a y.c x.q ks1.out.du); clear hb) | ((with_reducible refine (HM2.out).mono ?_); rintro e' u2 ⟨rfl, hb⟩; have ks2 := Lib.hid (ks1.out.up hb); have kb2 := Lib.hid (kb1.out.up hb); have HM3 := Lib.hid (du_bal y.a y.c ((k : Int) - 1) ks2.out.du HMy.out.1 HMy.out.2.1); clear hb) | ((with_reducible refine (HM3.out).mono ?_); rintro e' u3 ⟨rfl, hb⟩; have ks3 := Lib.hid (ks2.out.up hb); have kb3 := Lib.hid (kb2.out.up hb); have HM4 := Lib.hid (dg_bal y.a y.c ((k : Int) - 1) ks3.out.du); clear hb) | ((with_reducible refine (HM4.out).mono ?_); rintro e' u4 ⟨rfl, hb⟩; have ks4 := Lib.hid (ks3.out.up hb); have kb4 := Lib.hid (kb3.out.up hb); clear hb))
                          all_goals
                            clear g0 g1 g2 z0 z1 z2
                            go_wp2_with fail
                            go_roundw
                            case rel => exact ⟨t + 1, by omega, by go_num, ks4.out⟩
                            case measure => simp [intOf]; omega
                      · have hte : t = x.ps.length := by omega
                        subst hte
                        as_aux_lemma =>
                          go_wp2_with fail
                          refine ⟨⟨j + 1, T, by omega, by go_num, HSt.out.du.mono fun b hb => .inl hb, HSt.out.bel⟩, by simp [intOf]; omega⟩
        · obtain rfl : j = l.length := by omega
          obtain ⟨wo, rfl⟩ : ∃ wo, wo = wr := ⟨_, rfl⟩
          have hfew := hD.fine.few
          clear hD hbw
          as_aux_lemma =>
            go_wp2_with fail
            go_loopw [27] (fun i wr => ∃ t : Int, -1 ≤ t ∧ t ≤ S.L.length + 1 ∧ i = .int .i64 t ∧ Du (fun b => b < w.heap.size) wr p r S S ∧ Below w.heap.size w wr) (fun i _ => (S.L.length + 1 - intOf i).toNat)
            case atStart => exact ⟨-1, by omega, by omega, rfl, HD.out, HBw.out⟩
            case round =>
              obtain ⟨t, ht0, ht1, rfl, hD2, hb2⟩ := hrel
              have HD2 := Lib.hid hD2
              have HB2 := Lib.hid hb2
              obtain ⟨ra, rc, hrc⟩ := hD2.rc
              have HRc := Lib.hid hrc
              have c2 := hrc.2.2
              clear hD2 hb2 hrc
              as_aux_lemma =>
                by_cases htl : t ≤ S.L.length
                · have HEn := Lib.hid (du_ent t HD2.out)
                  go_wp2_with fail
                  refine HEn.out.mono ?_
                  rintro e w5 ⟨he, hb⟩
                  have HD5 := Lib.hid (HD2.out.up hb)
                  have HB5 := Lib.hid (up2 HB2.out hb)
                  have d2 := kcell hb c2
                  clear hb c2 HEn
                  rcases he with ⟨hno, rfl⟩ | ⟨y, v, hyes, hy, rfl, hv⟩
                  · have hto : t < 0 ∨ t = S.L.length := by
                      unfold entB at hno
                      simp at hno
                      omega
                    clear hno
                    rcases hto with hto | hto
                    · go_wp2_with fail
                      refine ⟨⟨t + 1, by omega, by omega, by go_num, HD5.out, HB5.out⟩, by simp [intOf] <;> omega⟩
                    · have hnn : ¬ t < 0 := by omega
                      subst hto
                      go_wp2_with fail
                      refine ⟨⟨S.L.length + 1, by omega, by omega, by go_num, HD5.out, HB5.out⟩, by simp [intOf] <;> omega⟩
                  · have hyt : 0 ≤ t ∧ t < S.L.length := by unfold entB at hyes; simp at hyes; exact hyes
                    obtain ⟨i, rfl⟩ : ∃ i : Nat, t = i := ⟨t.toNat, by omega⟩
                    rw [show ((i : Int)).toNat = i by omega] at hy
                    have hok := HD5.out.fine.ok y (List.mem_of_getElem? hy)
                    have hl32 := (well_iff.1 hok.well).2.1
                    obtain ⟨av, cv, rfl, hpv, _, _⟩ := own_psa hv
                    obtain ⟨g9, c9, a9, k9, hrc9, m0, m1, hp9⟩ := HD5.out.at hy
                    have e2 := hrc9.2.2
                    have HSame := Lib.hid (gsame_true av a9 cv k9 y.ps hpv hp9 hl32)
                    as_aux_lemma =>
                      have hnn : ¬ ((i : Int) < 0) := by omega
                      have hne : ((i : Int) == (S.L.length : Int)) = false := by simp; omega
                      have i0 : (0 : Int) ≤ (i : Int) := by omega
                      have i1 : (i : Int) < (S.L.length : Int) := by omega
                      clear hyes hy hok hl32 hv hpv hrc9 hp9 d2
                      go_wp2_with fail
                      refine HSame.out.mono ?_
                      rintro e w6 ⟨rfl, hb⟩
                      have HD6 := Lib.hid (HD5.out.up hb)
                      have HB6 := Lib.hid (up2 HB5.out hb)
                      clear hb m0 m1 e2
                      go_wp2_with fail
                      refine ⟨⟨i + 1, by omega, by omega, by go_num, HD6.out, HB6.out⟩, by simp [intOf] <;> omega⟩
                · have hte : t = S.L.length + 1 := by omega
                  subst hte
                  go_wp2_with fail
                  go_ret
                  exact ⟨rfl, HB2.out⟩
    · have hn' : n < 1 ∨ 240 < n := by omega
      as_aux_lemma =>
        have HNew := Lib.hid (new_no (w := w1) n hn')
        have HGn := Lib.hid (gnew_no (w := w1) n hn')
        clear hn hn' hl
        go_wp2_with fail
        refine HNew.out.mono ?_
        rintro e w2 ⟨rfl, rfl⟩
        go_wp2_with fail
        refine HGn.out.mono ?_
        rintro e w2 ⟨rfl, rfl⟩
        go_wp2_with fail
        go_loopw [15] (fun i wr => i = .int .i64 0 ∧ w1 = wr) (fun _ _ => 0)
        case atStart => exact ⟨rfl, rfl⟩
        case round =>
          obtain ⟨rfl, rfl⟩ := hrel
          go_wp2_with fail
          go_loopw [27] (fun i wr => i = .int .i64 (-1) ∧ w1 = wr) (fun _ _ => 0)
          case atStart => exact ⟨rfl, rfl⟩
          case round =>
            obtain ⟨rfl, rfl⟩ := hrel
            go_wp2_with fail
            go_ret
            exact ⟨rfl, HB1.out⟩
  · go_wp2_with fail
    go_ret
    exact ⟨rfl, HB1.out⟩
end Go.Proofs.Ytginbgclifdfiaa
namespace Go.Proofs.Ytginbgclifdfiaa.accountDoes
open Go.ChangeShapes Go.WideShapes Go.ChangeAt Go.RowKit
set_option linter.unusedVariables false

theorem walk (w : World) (a0 : Int) (w0 : (Lit.int .i64 a0).wf = true) (a1 : Option Addr) (cap1 : Nat) (l1 : List Oq) (hO1 : OpsA w a1 l1) (hm1 : l1.length ≤ 2932031007400) (hn1 : a1 = none → cap1 = 0) (a2 : Int) (w2 : (Lit.int .i64 a2).wf = true) (a3 : Int) (w3 : (Lit.int .i64 a3).wf = true) (a4 : Int) (w4 : (Lit.int .i64 a4).wf = true) :
    Calls Try.prog 3 #[.int .i64 a0, .slice a1 l1.length cap1, .int .i64 a2, .int .i64 a3, .int .i64 a4] w fun e w' => e = .returned (.bool true) ∧ Below w.heap.size w w' :=
  does_law w a0 a1 cap1 l1 a2 a3 a4 hO1 (Nat.le_trans hm1 (by decide)) (bounds_i64 w2) (bounds_i64 w3)

set_option maxRecDepth 100000 in
theorem lifted (os : Os) (started : os.Started) (H : Type) (enc : TypeId × Value → H) :
    ReturnsInHanded {} Try.checked os 3 .any (Rows.accountDoesSpec.pre6 enc Try.prog Try.f3 Rows.accountDoesRow.domain false) (Rows.accountDoesSpec.post enc Try.prog Try.f3 false true false false) := by
  refine returnsInHanded_of_change_sized (C := Try.checked) own started (by kernel_rfl) Try.func3
    (ChangeSpec.witness6 (enc := enc) (C := Try.checked) false ⟨#[], #[.int .i64 0, .slice none 0 0, .int .i64 0, .int .i64 0, .int .i64 0], []⟩ 8 (by kernel_rfl) (by kernel_rfl) (by kernel_rfl) (by kernel_rfl)) ?_
  intro W base args ds gs before hval0 hW hcnd hweigh _
  have hval : ∀ (j : Nat) t v, Try.f3.params[j]? = some t → args[j]? = some v → Value.okWide Try.prog W .any base t v := hval0
  have hsz : (DataW.weightsEach Try.prog (Try.f3.params.toList ++ Rows.accountDoesSpec.plain.varTypes Try.prog) (ds ++ gs)).all (· ≤ reachBytes) = true := hweigh
  have hW' := hW
  obtain ⟨p, q, hA0, hV, rfl, hfz, hnd⟩ := hW
  have hA : DataW.TrodAll enc Try.prog W 0 (fun _ => true) true Try.f3.params.toList args.toList ds p := hA0
  rw [Try.params3] at hA hval hsz
  obtain ⟨v0, vs0, d0, ds0, p0, q0, hargs, rfl, rfl, h0, r0⟩ := trodAll_cons hA
  obtain ⟨v1, vs1, d1, ds1, p1, q1, rfl, rfl, rfl, h1, r1⟩ := trodAll_cons r0
  obtain ⟨v2, vs2, d2, ds2, p2, q2, rfl, rfl, rfl, h2, r2⟩ := trodAll_cons r1
  obtain ⟨v3, vs3, d3, ds3, p3, q3, rfl, rfl, rfl, h3, r3⟩ := trodAll_cons r2
  obtain ⟨v4, vs4, d4, ds4, p4, q4, rfl, rfl, rfl, h4, r4⟩ := trodAll_cons r3
  obtain ⟨rfl, rfl, rfl⟩ := trodAll_nil r4
  obtain rfl : args = #[v0, v1, v2, v3, v4] := by cases args; simp_all
  obtain ⟨rfl, rfl⟩ := trodVars_none hV
  obtain ⟨a0, rfl, rfl, rfl, w0⟩ := open_int Try.underlying3 (hval 0 3 v0 rfl rfl) h0
  obtain ⟨a1, len1, cap1, rfl⟩ := okWide_slice Try.underlying22 (hval 1 22 v1 rfl rfl)
  have k1' := h1
  have lt1 : ∀ x ∈ p1, x.block < W.heap.size := by obtain ⟨m, hm⟩ := k1'; exact DataW.trod_lt m _ _ _ hm
  obtain ⟨l1, hl1, hO1, hn1, hy1⟩ : ∃ l : List Oq, l.length = len1 ∧ OpsA W a1 l ∧ (a1 = none → cap1 = 0) ∧ ((l = [] ∧ d1 = .nil) ∨ ∃ el sp, el.length = l.length ∧ d1 = .slice el sp) := by
    obtain ⟨fuel, hf⟩ := h1
    exact opqs_read hf
  subst hl1
  have hm1 : l1.length ≤ 2932031007400 := by
    rcases hy1 with ⟨e, _⟩ | ⟨el, sp, e, rfl⟩
    · rw [e]; simp
    · rw [← e]; exact opqs_sized hsz (j := 1) rfl rfl
  obtain ⟨a2, rfl, rfl, rfl, w2⟩ := open_int Try.underlying3 (hval 2 3 v2 rfl rfl) h2
  obtain ⟨a3, rfl, rfl, rfl, w3⟩ := open_int Try.underlying3 (hval 3 3 v3 rfl rfl) h3
  obtain ⟨a4, rfl, rfl, rfl, w4⟩ := open_int Try.underlying3 (hval 4 3 v4 rfl rfl) h4
  clear hA0 hval0
  refine (walk W a0 w0 a1 cap1 l1 hO1 hm1 hn1 a2 w2 a3 w3 a4 w4).mono fun e W' ⟨he, bel⟩ => ?_
  subst he
  exact ⟨_, rfl, _, _, _, [], _, [], hW', trodAll_mk1 (shut_bool Try.underlying4 _), (trodAll_cons_mk (shut_int Try.underlying3 w0) (trodAll_cons_mk (Below.trod laidOut (by kernel_rfl) (of_decide_eq_true (by kernel_rfl)) k1' bel lt1) (trodAll_cons_mk (shut_int Try.underlying3 w2) (trodAll_cons_mk (shut_int Try.underlying3 w3) (trodAll_cons_mk (shut_int Try.underlying3 w4) trodAll_mk0))))), rfl, bel.frame _, fun h => by cases h⟩

theorem over : Rows.accountDoesRow.holds Try.pinned (OpenSpec.ofChange Rows.accountDoesSpec) :=
  OpenClaim.holds_of_wide 3 Try.f3 rfl rfl rfl rfl rfl rfl rfl ⟨rfl, rfl, rfl, rfl, rfl⟩ rfl rfl rfl rfl rfl (by kernel_rfl) Try.func3 (by kernel_rfl)
    (of_decide_eq_true (by kernel_rfl)) (by unfold Func.isWrapper; first | (rw [if_pos (by decide +kernel)]; kernel_rfl) | (rw [if_neg (by decide +kernel)]; exact ⟨rfl, rfl⟩))
    (fun os started H enc _ => lifted os started H enc)

theorem proved : Rows.AccountDoesSaid := over
#print axioms proved
end Go.Proofs.Ytginbgclifdfiaa.accountDoes
