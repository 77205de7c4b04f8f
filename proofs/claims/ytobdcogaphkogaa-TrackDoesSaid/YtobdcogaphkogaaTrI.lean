/- TrackAfresh: its core. -/
import Derived.Test.YtobdcogaphkogaaTrH
namespace Go.Proofs.Ytobdcogaphkogaa
open Go.RowKit

/-- two tracks of a call's own, beside each other -/
structure Tw2 (w0 w : World) (b c : Nat) (d : Dt) (E : List Tl) (L : List Sp) (E2 : List Tl) (L2 : List Sp) : Prop where
  x : ∃ O1 O2 : Nat → Prop, Tk w O1 b d E L ∧ Tk w O2 c d E2 L2 ∧ (∀ g, O1 g → ¬ O2 g) ∧ (∀ g, O1 g → w0.heap.size ≤ g) ∧ (∀ g, O2 g → w0.heap.size ≤ g)
  bel : Below w0.heap.size w0 w
section
variable {w0 w1 w w' : World} {b c : Nat} {d : Dt} {E E2 E' : List Tl} {L L2 L' : List Sp}
theorem Tw2.of (h1 : Tf w0 w1 b d E L) (h2 : Tf w1 w c d E2 L2) : Tw2 w0 w b c d E L E2 L2 :=
  ⟨⟨Fr w0 w1, Fr w1 w, h1.tk.up h2.bel, h2.tk, fun _ q1 q2 => by have := q1.2; have := q2.1; omega, fun _ q => q.1, fun _ q => Nat.le_trans h1.bel.size q.1⟩, up2 h1.bel h2.bel⟩
theorem Tw2.up (h : Tw2 w0 w b c d E L E2 L2) (q : Below w.heap.size w w') : Tw2 w0 w' b c d E L E2 L2 := by
  obtain ⟨⟨O1, O2, h1, h2, h3, h4, h5⟩, hb⟩ := h
  exact ⟨⟨O1, O2, h1.up q, h2.up q, h3, h4, h5⟩, up2 hb q⟩
theorem Tw2.first (h : Tw2 w0 w b c d E L E2 L2) : ∃ O1, Tk w O1 b d E L ∧ ∀ w' E' L', TkR w O1 b d E' L' w' → Tw2 w0 w' b c d E' L' E2 L2 ∧ Oth15 w w' := by
  obtain ⟨⟨O1, O2, h1, h2, h3, h4, h5⟩, hb⟩ := h
  refine ⟨O1, h1, fun w' E' L' k => ⟨⟨⟨Nw O1 w w', O2, k.1, h2.keep k.2.1 k.2.2 (fun g q1 q2 => h3 g q2 q1), fun g q1 q2 => ?_, fun g q => ?_, h5⟩, hb.trans (k.2.1.below hb.size h4)⟩, k.2.2⟩⟩
  · rcases q1 with q1 | q1
    · exact h3 g q1 q2
    · have := h2.lt g q2; omega
  · rcases q with q | q
    · exact h4 g q
    · exact Nat.le_trans hb.size q.1
theorem Tw2.second (h : Tw2 w0 w b c d E L E2 L2) : ∃ O2, Tk w O2 c d E2 L2 ∧ ∀ w' E' L', TkR w O2 c d E' L' w' → Tw2 w0 w' b c d E L E' L' ∧ Oth15 w w' := by
  obtain ⟨⟨O1, O2, h1, h2, h3, h4, h5⟩, hb⟩ := h
  refine ⟨O2, h2, fun w' E' L' k => ⟨⟨⟨O1, Nw O2 w w', h1.keep k.2.1 k.2.2 (fun g q1 q2 => h3 g q1 q2), k.1, fun g q1 q2 => ?_, h4, fun g q => ?_⟩, hb.trans (k.2.1.below hb.size h5)⟩, k.2.2⟩⟩
  · rcases q2 with q2 | q2
    · exact h3 g q1 q2
    · have := h1.lt g q1; omega
  · rcases q with q | q
    · exact h5 g q
    · exact Nat.le_trans hb.size q.1
theorem Tw2.do (h : Tw2 w0 w b c d E L E2 L2) (x : Op3) (hn : Am x.n) : Calls Try.prog 10 #[.pointer (some ⟨b, 0, none⟩), x.val] w fun e w' => e = .returned (.int .i64 (stE d E L x)) ∧ Tw2 w0 w' b c d (stT d E x) (stL d E L x) E2 L2 ∧ Oth15 w w' := by
  obtain ⟨O1, h1, h2⟩ := h.first
  exact (do15_any h1 x hn).mono fun _ w' q => ⟨q.1, h2 w' _ _ q.2⟩
theorem Tw2.told (h : Tw2 w0 w b c d E L E2 L2) : ∃ p, w.cell? ⟨c, 0, none⟩ = some (.pointer (some ⟨p, 0, none⟩)) ∧ ∀ W, W = w ∨ W = w.drew → ∀ day n, Am n → Calls Try.prog 25 #[.pointer (some ⟨p, 0, none⟩), .int .i64 day, .int .i64 n] W fun e w' => e = .returned (.int .i64 (telE d.me E2 day n)) ∧ Tw2 w0 w' b c d E L (telS d.me E2 day n) L2 := by
  obtain ⟨O2, h2, h3⟩ := h.second
  obtain ⟨p, la, lc, tv, sv, hx⟩ := h2
  refine ⟨p, by simpa using hx.has.cell 0, fun W hW day n hn => ?_⟩
  have hb : Below w.heap.size w W := by rcases hW with rfl | rfl; exact Below.refl _ _; exact (Below.refl _ _).drew
  exact (ttell_any (hx.up hb) day n hn).mono fun _ w' q => ⟨q.1, (h3 w' _ _ (q.2.from hb hx.lt)).1⟩
theorem Tw2.afresh (h : Tw2 w0 w b c d E L E2 L2) (day n : Int) (hn : Am n) : Calls Try.prog 26 #[.pointer (some ⟨b, 0, none⟩), .int .i64 day, .int .i64 n] w fun e w' => e = .returned (.int .i64 (afrE L day n)) ∧ Tw2 w0 w' b c d E (afrS L day n) E2 L2 := by
  obtain ⟨O1, h1, h2⟩ := h.first
  obtain ⟨p, la, lc, tv, sv, hx⟩ := h1
  exact (tafresh_any hx day n hn).mono fun _ w' q => ⟨q.1, (h2 w' _ _ q.2).1⟩
theorem Tw2.earned1 (h : Tw2 w0 w b c d E L E2 L2) (day : Int) : Calls Try.prog 14 #[.pointer (some ⟨b, 0, none⟩), .int .i64 day] w fun e w' => e = .returned (.int .i64 (earV d E L day)) ∧ Below w.heap.size w w' := by
  obtain ⟨O1, ⟨p, la, lc, tv, sv, hx⟩, _⟩ := h.first
  exact tearned_any hx day
theorem Tw2.earned2 (h : Tw2 w0 w b c d E L E2 L2) (day : Int) : Calls Try.prog 14 #[.pointer (some ⟨c, 0, none⟩), .int .i64 day] w fun e w' => e = .returned (.int .i64 (earV d E2 L2 day)) ∧ Below w.heap.size w w' := by
  obtain ⟨O1, ⟨p, la, lc, tv, sv, hx⟩, _⟩ := h.second
  exact tearned_any hx day
theorem Tw2.allot (h : Tw2 w0 w b c d E L E2 L2) : Calls Try.prog 16 #[.pointer (some ⟨b, 0, none⟩)] w fun e w' => e = .returned (.int .i64 (altV L)) ∧ Below w.heap.size w w' := by
  obtain ⟨O1, ⟨p, la, lc, tv, sv, hx⟩, _⟩ := h.first
  exact tallot_any hx
theorem Tw2.fineS (h : Tw2 w0 w b c d E L E2 L2) : FineS L := by obtain ⟨O1, h1, _⟩ := h.first; exact h1.fineS
end
set_option maxRecDepth 100000 in
set_option maxHeartbeats 16000000 in
theorem afresh_law (d : Dt) (da : Option Addr) (dc : Nat) (al0 : Int) (a2 : Option Addr) (c2 : Nat) (l : List Op3) (day nn other : Int) (w : World) (hI : InA w da d.ls) (hda : da = none → dc = 0) (hu : Am d.un) (hal : Am al0) (hR : O3A w a2 l) (hAm : AmO l) (hnn : Am nn) :
    Calls Try.prog 6 #[d.val da dc, .int .i64 al0, .slice a2 l.length c2, .int .i64 day, .int .i64 nn, .int .i64 other] w fun e w' => e = .returned (.bool true) ∧ Below w.heap.size w w' := by
  have HAw := Lib.hid (fun (W : World) => awake_any15 W)
  have HNo := Lib.hid (fun (W : World) (z : Int) (q : dtB d = false ∨ z < 0) (q2 : d.ls.length ≤ 17592186044416) (q3 : Below w.heap.size w W) => trnew_no (w := W) (d := d) (a := da) (c := dc) z q2 (hI.up q3) hda q)
  have HNew := Lib.hid (fun (W : World) (z : Int) (q : dtB d = true) (q0 : 0 ≤ z) (hz : Am z) (q2 : d.ls.length ≤ 17592186044416) (q3 : Below w.heap.size w W) => trnew_yes (w := W) (d := d) (a := da) (c := dc) z q2 (hI.up q3) hda q q0 hz hu)
  have HDo := Lib.hid (fun (w0 W : World) (b c : Nat) (E E2 : List Tl) (L L2 : List Sp) (h : Tw2 w0 W b c d E L E2 L2) (x : Op3) (q : Am x.n) => h.do x q)
  have HTo := Lib.hid (fun (w0 W : World) (b c : Nat) (E E2 : List Tl) (L L2 : List Sp) (h : Tw2 w0 W b c d E L E2 L2) => h.told)
  have HAf := Lib.hid (fun (w0 W : World) (b c : Nat) (E E2 : List Tl) (L L2 : List Sp) (h : Tw2 w0 W b c d E L E2 L2) => h.afresh day nn hnn)
  have HE1 := Lib.hid (fun (w0 W : World) (b c : Nat) (E E2 : List Tl) (L L2 : List Sp) (h : Tw2 w0 W b c d E L E2 L2) => h.earned1 other)
  have HE2 := Lib.hid (fun (w0 W : World) (b c : Nat) (E E2 : List Tl) (L L2 : List Sp) (h : Tw2 w0 W b c d E L E2 L2) => h.earned2 other)
  have HNn := Lib.hid hnn
  have HAl := Lib.hid hal
  have HR := Lib.hid hR
  have HAm := Lib.hid hAm
  obtain ⟨n, hn⟩ : ∃ n, n = l.length := ⟨_, rfl⟩
  have HN := Lib.hid hn
  obtain ⟨D, hD⟩ : ∃ D, D = d := ⟨_, rfl⟩
  rw [← hD] at HNo HNew HDo HTo HAf HE1 HE2
  unfold Dt.val at HNo HNew ⊢
  rw [← hD, ← hn]
  obtain ⟨m, hm⟩ : ∃ m, m = D.ls.length := ⟨_, rfl⟩
  rw [← hm] at HNo HNew ⊢
  obtain ⟨al, hal2⟩ : ∃ al, al = D.al := ⟨_, rfl⟩
  obtain ⟨un, hun⟩ : ∃ un, un = D.un := ⟨_, rfl⟩
  obtain ⟨me, hme⟩ : ∃ me, me = D.me := ⟨_, rfl⟩
  obtain ⟨fi, hfi⟩ : ∃ fi, fi = D.fi := ⟨_, rfl⟩
  obtain ⟨lA, hlA⟩ : ∃ lA, lA = D.la := ⟨_, rfl⟩
  rw [← hal2, ← hun, ← hme, ← hfi, ← hlA] at HNo HNew ⊢
  unfold Op3.val at HDo
  clear hI hda hR hAm hn hD hal hal2 hun hme hfi hlA hm hu hnn d
  go_enter Try.func6, Try.ntmps6
  go_wp2_with fail
  have HXB := Lib.hid (Has.fresh w 24 #[.slice da m dc, .int .i64 al, .int .i64 un, .int .i64 me, .int .i64 fi, .int .i64 lA])
  refine (HAw.out _).mono ?_
  rintro e w1 ⟨rfl, hb⟩
  have hx := HXB.out.up hb
  have HX1 := Lib.hid hx
  have x0 := hx.cell 0
  have x1 := hx.cell 1
  have x2 := hx.cell 2
  have x3 := hx.cell 3
  have x4 := hx.cell 4
  have x5 := hx.cell 5
  simp at x0 x1 x2 x3 x4 x5
  have HB1 := Lib.hid (up2 (boxed _ _) hb)
  clear hb hx
  by_cases g1 : 70 < n
  · have g1' : (70 : Int) < (n : Int) := by omega
    clear g1
    go_wp2_with fail
    go_ret
    exact ⟨rfl, HB1.out⟩
  have g1' : ¬ (70 : Int) < (n : Int) := by omega
  by_cases g2 : 20 < m
  · have g2' : (20 : Int) < (m : Int) := by omega
    clear g1 g2
    go_wp2_with fail
    go_ret
    exact ⟨rfl, HB1.out⟩
  have g2' : ¬ (20 : Int) < (m : Int) := by omega
  by_cases g3 : other < day
  · clear g1 g2
    go_wp2_with fail
    go_ret
    exact ⟨rfl, HB1.out⟩
  have G3 := Lib.hid g3
  by_cases hd : dtB D = false ∨ al0 < 0
  · have HN0 := Lib.hid (HNo.out w1 al0 hd (by omega) HB1.out)
    have HN1 : Hid (∀ W, Below w.heap.size w W → Calls Try.prog 8 #[.agg #[.slice da m dc, .int .i64 al, .int .i64 un, .int .i64 me, .int .i64 fi, .int .i64 lA], .int .i64 nn] W fun e w' => ∃ v X, e = .returned (.tuple #[.pointer v, .int .i64 X]) ∧ Below W.heap.size W w') := Lib.hid fun W q => by
      by_cases z : dtB D = false ∨ nn < 0
      · exact (HNo.out W nn z (by omega) q).mono fun _ _ r => ⟨_, _, r.1, r.2⟩
      · exact (HNew.out W nn (by cases q : dtB D <;> simp_all) (by omega) HNn.out (by omega) q).mono fun _ _ ⟨b, r1, r2⟩ => ⟨_, _, r1, r2.bel⟩
    clear g1 g2 hd
    go_wp2_with fail
    refine HN0.out.mono ?_
    rintro e w2 ⟨rfl, hb⟩
    have hx := HX1.out.up hb
    have x0 := hx.cell 0
    have x1 := hx.cell 1
    have x2 := hx.cell 2
    have x3 := hx.cell 3
    have x4 := hx.cell 4
    have x5 := hx.cell 5
    simp at x0 x1 x2 x3 x4 x5
    have HB2 := Lib.hid (up2 HB1.out hb)
    clear hb hx
    go_wp2_with fail
    refine (HN1.out _ HB2.out).mono ?_
    rintro e w3 ⟨v, X, rfl, hb⟩
    have HB3 := Lib.hid (up2 HB2.out hb)
    clear hb x0 x1 x2 x3 x4 x5
    go_wp2_with fail
    go_ret
    exact ⟨rfl, HB3.out⟩
  have hdt : dtB D = true := by cases q : dtB D <;> simp_all
  have HN1 := Lib.hid (HNew.out w1 al0 hdt (by omega) HAl.out (by omega) HB1.out)
  have hn2 : n ≤ 70 := by omega
  have hm2 : m ≤ 20 := by omega
  have HDt := Lib.hid hdt
  clear g1 g2 hd hdt
  go_wp2_with fail
  refine HN1.out.mono ?_
  rintro e w2 ⟨b, rfl, hs⟩
  have hx := HX1.out.up hs.bel
  have x0 := hx.cell 0
  have x1 := hx.cell 1
  have x2 := hx.cell 2
  have x3 := hx.cell 3
  have x4 := hx.cell 4
  have x5 := hx.cell 5
  simp at x0 x1 x2 x3 x4 x5
  have HS := Lib.hid hs
  have HB2 := Lib.hid (up2 HB1.out hs.bel)
  clear hs g1' g2' g3 hx
  by_cases g4 : nn < 0
  · have HN2 := Lib.hid (HNo.out w2 nn (.inr g4) (by omega) HB2.out)
    clear g4
    go_wp2_with fail
    refine HN2.out.mono ?_
    rintro e w3 ⟨rfl, hb⟩
    have HB3 := Lib.hid (up2 HB2.out hb)
    clear hb x0 x1 x2 x3 x4 x5
    go_wp2_with fail
    go_ret
    exact ⟨rfl, HB3.out⟩
  have HN2 := Lib.hid (HNew.out w2 nn HDt.out (by omega) HNn.out (by omega) HB2.out)
  clear g4
  go_wp2_with fail
  refine HN2.out.mono ?_
  rintro e w3 ⟨c, rfl, hs⟩
  have HT0 := Lib.hid (Tw2.of HS.out hs)
  clear hs x0 x1 x2 x3 x4 x5
  go_wp2_with fail
  go_loopw [61] (fun i wr => ∃ k : Nat, k ≤ n ∧ i = .int .i64 (k : Int) ∧ ∃ E L, Tw2 w1 wr b c D E L E [⟨0, 0, 0, nn⟩]) (fun i _ => n - (intOf i).toNat)
  case atStart => exact ⟨0, Nat.zero_le _, rfl, _, _, HT0.out⟩
  case round =>
    obtain ⟨k, hk, rfl, E, L, hT⟩ := hrel
    have HT := Lib.hid hT
    have HBr := Lib.hid (up2 HB1.out hT.bel)
    clear hT
    by_cases hlt : k < n
    · obtain ⟨y, hy⟩ : ∃ y, l[k]? = some y := ⟨l[k]'(by rw [← HN.out]; exact hlt), List.getElem?_eq_getElem _⟩
      obtain ⟨g, o, rfl, c0, c1, c2⟩ := o3_at (HR.out.up HBr.out) hy
      have hay := HAm.out y (List.mem_of_getElem? hy)
      have e1 : IntKind.i64.wrap ((k : Int) + 1) = (k : Int) + 1 := IntWalk.i64_in _ (by omega)
      obtain ⟨A, B, C⟩ := y
      simp only at c0 c1 c2 hay
      have HAy := Lib.hid hay
      have HTl := Lib.hid (fun (W : World) (q : Below wr.heap.size wr W) => HDo.out _ _ _ _ _ _ _ _ (HT.out.up q) ⟨A, B, C⟩ hay)
      clear hy hay
      simp only at HTl
      have HBx := Lib.hid (Has.fresh wr 35 #[.int .i64 A, .int .i64 B, .int .i64 C])
      go_wp2_with fail
      refine (HTl.out _ (boxed _ _)).mono ?_
      rintro e w4 ⟨rfl, hs, hO⟩
      have hx := hO _ _ _ HBx.out (by decide) (by decide) (by decide) (by decide)
      have y0 := hx.cell 0
      have y1 := hx.cell 1
      have y2 := hx.cell 2
      simp at y0 y1 y2
      have HS4 := Lib.hid hs
      clear hs c0 c1 c2 hO hx
      by_cases q : A = 0
      · have hst : stT D E ⟨A, B, C⟩ = telS D.me E B C := by unfold stT; rw [if_pos q]
        have HSt := Lib.hid hst
        obtain ⟨p, hp, htell⟩ := HTo.out _ _ _ _ _ _ _ _ HS4.out
        have HTe := Lib.hid (htell w4.drew (.inr rfl) B C HAy.out)
        have q' : (A == 0) = true := by simpa using q
        clear htell hst q
        go_wp2_with fail
        go_region_with (first | (go_at_call 25; (with_reducible refine (HTe.out).mono ?_); rintro e w5 ⟨rfl, hT5⟩; have kT5 := Lib.hid hT5; clear hT5))
        all_goals
          go_wp2_with fail
          have z := kT5.out
          rw [HSt.out] at z
          exact ⟨⟨k + 1, by omega, by go_num, _, _, z⟩, by simp [intOf]; omega⟩
      · have hst : stT D E ⟨A, B, C⟩ = E := by unfold stT; rw [if_neg q]
        have HSt := Lib.hid hst
        have q' : (A == 0) = false := by simpa using q
        clear q hst
        go_wp2_with fail
        have z := HS4.out
        rw [HSt.out] at z
        exact ⟨⟨k + 1, by omega, by go_num, _, _, z⟩, by simp [intOf]; omega⟩
    · obtain rfl : k = n := by omega
      clear hlt
      obtain ⟨X, hX⟩ : ∃ X, X = afrE L day nn := ⟨_, rfl⟩
      have HAf1 := Lib.hid (HAf.out _ _ _ _ _ _ _ _ HT.out)
      rw [← hX] at HAf1
      have HX := Lib.hid hX
      clear hX
      go_wp2_with fail
      refine HAf1.out.mono ?_
      rintro e w4 ⟨rfl, hs⟩
      have HS4 := Lib.hid hs
      have HB4 := Lib.hid (up2 HB1.out hs.bel)
      clear hs
      by_cases q : X = 0
      · have q' : (X != 0) = false := by simpa using q
        obtain ⟨i1, i2⟩ := track_afresh HT.out.fineS (d := D) (E := E) (o := other) (show afrE L day nn = 0 by rw [← HX.out]; exact q) (by have := G3.out; omega)
        have HEa1 := Lib.hid (HE1.out _ _ _ _ _ _ _ _ HS4.out)
        have HEa2 := Lib.hid (fun (W : World) (h : Below w4.heap.size w4 W) => HE2.out _ _ _ _ _ _ _ _ (HS4.out.up h))
        have HAl2 := Lib.hid (fun (W : World) (h : Below w4.heap.size w4 W) => (HS4.out.up h).allot)
        rw [i1] at HEa1
        rw [i2] at HAl2
        generalize earV D E [⟨0, 0, 0, nn⟩] other = v at HEa1 HEa2
        clear q i1 i2
        go_wp2_with fail
        refine HEa1.out.mono ?_
        rintro e w5 ⟨rfl, hb5⟩
        have HB5 := Lib.hid hb5
        clear hb5
        go_wp2_with fail
        refine (HEa2.out _ HB5.out).mono ?_
        rintro e w6 ⟨rfl, hb6⟩
        have HB6 := Lib.hid (up2 HB5.out hb6)
        clear hb6
        go_wp2_with fail
        refine (HAl2.out _ HB6.out).mono ?_
        rintro e w7 ⟨rfl, hb7⟩
        have HB7 := Lib.hid (up2 HB4.out (up2 HB6.out hb7))
        clear hb7
        go_wp2_with fail
        go_ret
        exact ⟨by simp, HB7.out⟩
      · have q' : (X != 0) = true := by simpa using q
        clear q
        go_wp2_with fail
        go_ret
        exact ⟨rfl, HB4.out⟩
end Go.Proofs.Ytobdcogaphkogaa
