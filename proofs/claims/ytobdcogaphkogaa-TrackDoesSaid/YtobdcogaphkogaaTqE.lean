/- TrackDoes: its core. WRITTEN by wip/tools/gen_tqe.py. -/
import Derived.Test.YtobdcogaphkogaaTqD
namespace Go.Proofs.Ytobdcogaphkogaa
open Go.RowKit

set_option maxRecDepth 100000 in
set_option maxHeartbeats 64000000 in
theorem tdoes_law (d : Dt) (da : Option Addr) (dc : Nat) (al0 : Int) (a2 : Option Addr) (c2 : Nat) (l : List Op3) (day : Int) (w : World) (hI : InA w da d.ls) (hda : da = none → dc = 0) (hu : Am d.un) (hal : Am al0) (hR : O3A w a2 l) (hAm : AmO l) :
    Calls Try.prog 3 #[d.val da dc, .int .i64 al0, .slice a2 l.length c2, .int .i64 day] w fun e w' => e = .returned (.bool true) ∧ Below w.heap.size w w' := by
  have HAw := Lib.hid (fun (W : World) => awake_any15 W)
  have HNo := Lib.hid (fun (W : World) (q : dtB d = false ∨ al0 < 0) (q2 : d.ls.length ≤ 17592186044416) (q3 : Below w.heap.size w W) => trnew_no (w := W) (d := d) (a := da) (c := dc) al0 q2 (hI.up q3) hda q)
  have HNew := Lib.hid (fun (W : World) (q : dtB d = true) (q0 : 0 ≤ al0) (q2 : d.ls.length ≤ 17592186044416) (q3 : Below w.heap.size w W) => trnew_yes (w := W) (d := d) (a := da) (c := dc) al0 q2 (hI.up q3) hda q q0 hal hu)
  have HQNo := Lib.hid (fun (W : World) (q : dtB d = false ∨ al0 < 0) => qtrnew_no (w := W) (d := d) (a := da) (c := dc) al0 q)
  have HQNew := Lib.hid (fun (W : World) (q : dtB d = true) (q0 : 0 ≤ al0) => qtrnew_yes (w := W) (d := d) (a := da) (c := dc) al0 q q0 hal hu)
  have HDo := Lib.hid (fun (w0 W : World) (b r k : Nat) (E : List Tl) (L : List Sp) (h : Db w0 W b r k d E L E L) (x : Op3) (q : Am x.n) => h.do x q)
  have HQT := Lib.hid (fun (w0 W : World) (b r k : Nat) (E E2 : List Tl) (L L2 : List Sp) (h : Db w0 W b r k d E L E2 L2) => h.qtold)
  have HQO := Lib.hid (fun (w0 W : World) (b r k : Nat) (E E2 : List Tl) (L L2 : List Sp) (h : Db w0 W b r k d E L E2 L2) (dy n : Int) (q : Am n) => h.qonward dy n q)
  have HQA := Lib.hid (fun (w0 W : World) (b r k : Nat) (E E2 : List Tl) (L L2 : List Sp) (h : Db w0 W b r k d E L E2 L2) (dy n : Int) (q : Am n) => h.qafresh dy n q)
  have HDuty := Lib.hid (fun (W : World) (b p r k : Nat) (E : List Tl) (L : List Sp) (h : Dp W b p r k d E L) (q : d.ls.length ≤ 17592186044416) => h.duty q)
  have HOne := Lib.hid (fun (W : World) (a : Option Addr) (c : Nat) (q1 : InA W a d.ls) (q2 : Below w.heap.size w W) (q3 : d.ls.length ≤ 1000) => one_copy d a da c dc W q1 (hI.up q2) q3)
  have HR := Lib.hid hR
  have HAm := Lib.hid hAm
  obtain ⟨n, hn⟩ : ∃ n, n = l.length := ⟨_, rfl⟩
  have HN := Lib.hid hn
  obtain ⟨D, hD⟩ : ∃ D, D = d := ⟨_, rfl⟩
  rw [← hD] at HNo HNew HQNo HQNew HDo HQT HQO HQA HDuty HOne
  unfold Dt.val at HNo HNew HQNo HQNew HOne ⊢
  unfold CopR14 Dt.val at HDuty
  rw [← hD, ← hn]
  obtain ⟨m, hm⟩ : ∃ m, m = D.ls.length := ⟨_, rfl⟩
  have HMm := Lib.hid hm
  rw [← hm] at HNo HNew HQNo HQNew HOne HDuty ⊢
  obtain ⟨al, hal2⟩ : ∃ al, al = D.al := ⟨_, rfl⟩
  obtain ⟨un, hun⟩ : ∃ un, un = D.un := ⟨_, rfl⟩
  obtain ⟨me, hme⟩ : ∃ me, me = D.me := ⟨_, rfl⟩
  obtain ⟨fi, hfi⟩ : ∃ fi, fi = D.fi := ⟨_, rfl⟩
  obtain ⟨lA, hlA⟩ : ∃ lA, lA = D.la := ⟨_, rfl⟩
  rw [← hal2, ← hun, ← hme, ← hfi, ← hlA] at HNo HNew HQNo HQNew HOne HDuty ⊢
  unfold Op3.val at HDo
  clear hI hda hR hAm hn hD hal hal2 hun hme hfi hlA hm hu d
  go_enter Try.func3, Try.ntmps3
  go_wp2_with fail
  have HXB := Lib.hid (Has.fresh w 24 #[.slice da m dc, .int .i64 al, .int .i64 un, .int .i64 me, .int .i64 fi, .int .i64 lA])
  refine (HAw.out _).mono ?_
  rintro e w1 ⟨rfl, hb⟩
  have hx := HXB.out.up hb
  have HX1 := Lib.hid hx
  have x0 := hx.cell 0
  have x1 := hx.cell 1
  have x2 := hx.cell 2
  have x3 := hx.cell 3
  have x4 := hx.cell 4
  have x5 := hx.cell 5
  simp at x0 x1 x2 x3 x4 x5
  have HB1 := Lib.hid (up2 (boxed _ _) hb)
  clear hb hx
  by_cases g1 : 70 < n
  · have g1' : (70 : Int) < (n : Int) := by omega
    clear g1
    go_wp2_with fail
    go_ret
    exact ⟨rfl, HB1.out⟩
  have g1' : ¬ (70 : Int) < (n : Int) := by omega
  by_cases g2 : 20 < m
  · have g2' : (20 : Int) < (m : Int) := by omega
    clear g1 g2
    go_wp2_with fail
    go_ret
    exact ⟨rfl, HB1.out⟩
  have g2' : ¬ (20 : Int) < (m : Int) := by omega
  by_cases hd : dtB D = false ∨ al0 < 0
  · have HN0 := Lib.hid (HNo.out w1 hd (by omega) HB1.out)
    have HN1 := Lib.hid (fun (W : World) => HQNo.out W hd)
    clear g1 g2 hd
    go_wp2_with fail
    refine HN0.out.mono ?_
    rintro e w2 ⟨rfl, hb⟩
    have hx := HX1.out.up hb
    have x0 := hx.cell 0
    have x1 := hx.cell 1
    have x2 := hx.cell 2
    have x3 := hx.cell 3
    have x4 := hx.cell 4
    have x5 := hx.cell 5
    simp at x0 x1 x2 x3 x4 x5
    have HB2 := Lib.hid (up2 HB1.out hb)
    clear hb hx
    go_wp2_with fail
    refine (HN1.out _).mono ?_
    rintro e w3 ⟨rfl, hb⟩
    have HB3 := Lib.hid (up2 HB2.out hb)
    clear hb x0 x1 x2 x3 x4 x5
    go_wp2_with fail
    go_loopw [13] (fun i wr => i = .int .i64 0 ∧ wr = w3) (fun _ _ => 0)
    case atStart => exact ⟨rfl, rfl⟩
    case round =>
      obtain ⟨rfl, rfl⟩ := hrel
      go_wp2_with fail
      go_ret
      exact ⟨rfl, HB3.out⟩
  have hdt : dtB D = true := by cases q : dtB D <;> simp_all
  have HN1 := Lib.hid (HNew.out w1 hdt (by omega) (by omega) HB1.out)
  have HN2 := Lib.hid (fun (W : World) => HQNew.out W hdt (by omega))
  have hn2 : n ≤ 70 := by omega
  have hm2 : m ≤ 20 := by omega
  clear g1 g2 hd hdt
  go_wp2_with fail
  refine HN1.out.mono ?_
  rintro e w2 ⟨b, rfl, hs⟩
  have hx := HX1.out.up hs.bel
  have HX2 := Lib.hid hx
  have x0 := hx.cell 0
  have x1 := hx.cell 1
  have x2 := hx.cell 2
  have x3 := hx.cell 3
  have x4 := hx.cell 4
  have x5 := hx.cell 5
  simp at x0 x1 x2 x3 x4 x5
  have HS := Lib.hid hs
  clear hs g1' g2' hx
  go_wp2_with fail
  refine (HN2.out _).mono ?_
  rintro e w3 ⟨r, k, rfl, hq, hb, hr, hk⟩
  have HD0 := Lib.hid (Db.of HS.out hq hb hr hk)
  have HX3 := Lib.hid (HX2.out.up hb)
  clear hq hb hr hk x0 x1 x2 x3 x4 x5
  obtain ⟨yd, hyd⟩ : ∃ yd, yd = w.heap.size := ⟨_, rfl⟩
  rw [← hyd] at HX3
  go_wp2_with fail
  rw [← hyd]
  clear hyd
  go_loopw [13] (fun v wr => ∃ i : Nat, i ≤ n ∧ v = .int .i64 (i : Int) ∧ ∃ E L, Db w1 wr b r k D E L E L ∧ Has wr yd 24 #[.slice da m dc, .int .i64 al, .int .i64 un, .int .i64 me, .int .i64 fi, .int .i64 lA]) (fun v _ => n - (intOf v).toNat)
  case atStart => exact ⟨0, Nat.zero_le _, rfl, _, _, HD0.out, HX3.out⟩
  case round =>
    obtain ⟨i, hi, rfl, E, L, hT, hy⟩ := hrel
    have HT := Lib.hid hT
    have HY := Lib.hid hy
    have HBr := Lib.hid (up2 HB1.out hT.bel)
    clear hT hy
    by_cases hlt : i < n
    · obtain ⟨y, hy⟩ : ∃ y, l[i]? = some y := ⟨l[i]'(by rw [← HN.out]; exact hlt), List.getElem?_eq_getElem _⟩
      obtain ⟨g, o, rfl, c0, c1, c2⟩ := o3_at (HR.out.up HBr.out) hy
      have hay := HAm.out y (List.mem_of_getElem? hy)
      have e1 : IntKind.i64.wrap ((i : Int) + 1) = (i : Int) + 1 := IntWalk.i64_in _ (by omega)
      obtain ⟨A, B, C⟩ := y
      simp only at c0 c1 c2 hay
      have HAy := Lib.hid hay
      have HTl := Lib.hid (fun (W : World) (q : Below wr.heap.size wr W) => HDo.out _ _ _ _ _ _ _ (HT.out.up q) ⟨A, B, C⟩ hay)
      have i0 : (0 : Int) ≤ (i : Int) := by omega
      have i1 : (i : Int) < (n : Int) := by omega
      clear hy hay
      simp only at HTl
      obtain ⟨W1, hW1⟩ : ∃ W1, W1 = wr.alloc (.cells #[.int .i64 A, .int .i64 B, .int .i64 C] 35) := ⟨_, rfl⟩
      have HBx := Lib.hid (Has.fresh wr 35 #[.int .i64 A, .int .i64 B, .int .i64 C])
      have HY1 := Lib.hid (HY.out.up (boxed wr (.cells #[.int .i64 A, .int .i64 B, .int .i64 C] 35)))
      obtain ⟨bx, hbx⟩ : ∃ bx, bx = wr.heap.size := ⟨_, rfl⟩
      rw [← hbx] at HBx
      have HBxe := Lib.hid hbx
      clear hbx
      go_wp2_with fail
      refine (HTl.out _ (boxed _ _)).mono ?_
      rw [← HBxe.out]
      rintro e w4 ⟨rfl, hs, hO⟩
      have hx := hO _ _ _ HBx.out (by decide) (by decide) (by decide) (by decide)
      have HY4 := Lib.hid (hO _ _ _ HY1.out (by decide) (by decide) (by decide) (by decide))
      have y0 := hx.cell 0
      have y1 := hx.cell 1
      have y2 := hx.cell 2
      simp at y0 y1 y2
      have HS4 := Lib.hid hs
      have HX4 := Lib.hid hx
      clear hs c0 c1 c2 hO hx
      by_cases q0 : A = 0
      · have hst : stT D E ⟨A, B, C⟩ = telS D.me E B C := by unfold stT; rw [if_pos q0]
        have hsl : stL D E L ⟨A, B, C⟩ = L := by unfold stL; rw [if_neg (by simp only; omega), if_neg (by simp only; omega)]
        have hse : stE D E L ⟨A, B, C⟩ = telE D.me E B C := by unfold stE; rw [if_pos q0]
        rw [hst, hsl] at HS4
        obtain ⟨X, hX⟩ : ∃ X, X = telE D.me E B C := ⟨_, rfl⟩
        obtain ⟨E1, hE1⟩ : ∃ E1, E1 = telS D.me E B C := ⟨_, rfl⟩
        obtain ⟨L1, hL1⟩ : ∃ L1, L1 = L := ⟨_, rfl⟩
        rw [hse, ← hX]
        rw [← hE1, ← hL1] at HS4
        obtain ⟨hc, htell⟩ := HQT.out _ _ _ _ _ _ _ _ _ (HS4.out.up (Below.refl _ _).drew)
        have HTe := Lib.hid (htell B C HAy.out)
        rw [← hX, ← hE1] at HTe
        have hc : w4.cell? ⟨r, 0, none⟩ = some (.pointer (some ⟨k, 0, none⟩)) := hc
        have q' : (A == 0) = true := by simpa using q0
        clear htell hst hsl hse hX hE1 hL1 q0
        go_wp2_with fail
        have K0 : Hid (w4.drew.cell? ⟨r, 0, none⟩ = some (.pointer (some ⟨k, 0, none⟩)) ∧ w4.drew.cell? ⟨bx, 1, none⟩ = some (.int .i64 B) ∧ w4.drew.cell? ⟨bx, 2, none⟩ = some (.int .i64 C)) := Lib.hid ⟨hc, y1, y2⟩
        go_region_held3 (fun w' => w'.cell? ⟨r, 0, none⟩ = some (.pointer (some ⟨k, 0, none⟩)) ∧ w'.cell? ⟨bx, 1, none⟩ = some (.int .i64 B) ∧ w'.cell? ⟨bx, 2, none⟩ = some (.int .i64 C))
          (first | (go_keep; done) | (with_reducible exact K0.out) | (with_reducible exact kK5.out))
          (first | (go_at_call 11; (with_reducible refine (HTe.out).mono ?_); rintro e w5 ⟨rfl, hT5, hO5⟩; have HDb5 := Lib.hid hT5; have HBx5 := Lib.hid (hO5 _ _ _ (HX4.out.up (Below.refl _ _).drew) (by decide) (by decide)); have HDy5 := Lib.hid (hO5 _ _ _ (HY4.out.up (Below.refl _ _).drew) (by decide) (by decide)); have kK5 : Hid (w5.cell? ⟨r, 0, none⟩ = some (.pointer (some ⟨k, 0, none⟩)) ∧ w5.cell? ⟨bx, 1, none⟩ = some (.int .i64 B) ∧ w5.cell? ⟨bx, 2, none⟩ = some (.int .i64 C)) := Lib.hid ⟨HDb5.out.qtold.1, HBx5.out.cell 1, HBx5.out.cell 2⟩; clear hT5 hO5))
        all_goals
          clear y0 y1 y2 hc
          obtain ⟨p, hDp⟩ := HDb5.out.read
          obtain ⟨z1, z2, z3, z5, bo, hr1, hr2, hr3, hr4, hr5⟩ := dp_reads D E1 L1 b p r k B day
          have HR1 := Lib.hid hr1
          have HR2 := Lib.hid hr2
          have HR3 := Lib.hid hr3
          have HR4 := Lib.hid hr4
          have HR5 := Lib.hid hr5
          have HDu := Lib.hid (fun (W : World) (h : Dp W b p r k D E1 L1) => HDuty.out W b p r k E1 L1 h (by omega))
          have kD0 : Hid (Dp w5.drew b p r k D E1 L1) := Lib.hid (hDp.up (Below.refl _ _).drew)
          have kB0 : Hid (Below w5.heap.size w5 w5.drew) := Lib.hid (Below.refl _ _).drew
          have HBw : Hid (Below w.heap.size w w5) := Lib.hid (up2 HB1.out HDb5.out.bel)
          have hx5 := HBx5.out
          have hy5 := HDy5.out
          have hp5 := hDp.cell
          have b1 := hx5.cell 1
          have y0 := hy5.cell 0
          have y1 := hy5.cell 1
          have y2 := hy5.cell 2
          have y3 := hy5.cell 3
          have y4 := hy5.cell 4
          have y5 := hy5.cell 5
          simp at b1 y0 y1 y2 y3 y4 y5
          have kS0 : Hid (w5.drew.cell? ⟨bx, 1, none⟩ = some (.int .i64 B) ∧ w5.drew.cell? ⟨b, 0, none⟩ = some (.pointer (some ⟨p, 0, none⟩)) ∧ w5.drew.cell? ⟨yd, 0, none⟩ = some (.slice da m dc) ∧ w5.drew.cell? ⟨yd, 1, none⟩ = some (.int .i64 al) ∧ w5.drew.cell? ⟨yd, 2, none⟩ = some (.int .i64 un) ∧ w5.drew.cell? ⟨yd, 3, none⟩ = some (.int .i64 me) ∧ w5.drew.cell? ⟨yd, 4, none⟩ = some (.int .i64 fi) ∧ w5.drew.cell? ⟨yd, 5, none⟩ = some (.int .i64 lA)) := Lib.hid ⟨b1, hp5, y0, y1, y2, y3, y4, y5⟩
          have HOn := Lib.hid (fun (W : World) (a : Option Addr) (c : Nat) (q1 : InA W a D.ls) (q2 : Below w.heap.size w W) => HOne.out W a c q1 q2 (by omega))
          clear hr1 hr2 hr3 hr4 hr5 hDp hx5 hy5 hp5 b1 y0 y1 y2 y3 y4 y5
          go_wp2_with fail
          go_region_held3 (fun w' => w'.cell? ⟨bx, 1, none⟩ = some (.int .i64 B) ∧ w'.cell? ⟨b, 0, none⟩ = some (.pointer (some ⟨p, 0, none⟩)) ∧ w'.cell? ⟨yd, 0, none⟩ = some (.slice da m dc) ∧ w'.cell? ⟨yd, 1, none⟩ = some (.int .i64 al) ∧ w'.cell? ⟨yd, 2, none⟩ = some (.int .i64 un) ∧ w'.cell? ⟨yd, 3, none⟩ = some (.int .i64 me) ∧ w'.cell? ⟨yd, 4, none⟩ = some (.int .i64 fi) ∧ w'.cell? ⟨yd, 5, none⟩ = some (.int .i64 lA))
            (first | (go_keep; done) | (with_reducible exact kS0.out) | (with_reducible exact kS1.out) | (with_reducible exact kS2.out) | (with_reducible exact kS3.out) | (with_reducible exact kS4.out) | (with_reducible exact kS5.out) | (with_reducible exact kS6.out) | (with_reducible exact kS7.out) | (with_reducible exact kS8.out) | (with_reducible exact kS9.out) | (with_reducible exact kS10.out) | (with_reducible exact kS11.out) | (with_reducible exact kS12.out))
            (first | (go_at_call 14; (with_reducible refine ((HR1.out.1 _ kD0.out).mono ?_)); rintro e v1 ⟨rfl, hv⟩; have kD1 := Lib.hid (kD0.out.up hv); have kS1 : Hid (v1.cell? ⟨bx, 1, none⟩ = some (.int .i64 B) ∧ v1.cell? ⟨b, 0, none⟩ = some (.pointer (some ⟨p, 0, none⟩)) ∧ v1.cell? ⟨yd, 0, none⟩ = some (.slice da m dc) ∧ v1.cell? ⟨yd, 1, none⟩ = some (.int .i64 al) ∧ v1.cell? ⟨yd, 2, none⟩ = some (.int .i64 un) ∧ v1.cell? ⟨yd, 3, none⟩ = some (.int .i64 me) ∧ v1.cell? ⟨yd, 4, none⟩ = some (.int .i64 fi) ∧ v1.cell? ⟨yd, 5, none⟩ = some (.int .i64 lA)) := Lib.hid ⟨kcell hv kS0.out.1, kcell hv kS0.out.2.1, kcell hv kS0.out.2.2.1, kcell hv kS0.out.2.2.2.1, kcell hv kS0.out.2.2.2.2.1, kcell hv kS0.out.2.2.2.2.2.1, kcell hv kS0.out.2.2.2.2.2.2.1, kcell hv kS0.out.2.2.2.2.2.2.2⟩; have kB1 := Lib.hid (up2 kB0.out hv); clear hv) | (go_at_call 15; (with_reducible refine ((HR1.out.2 _ kD1.out).mono ?_)); rintro e v2 ⟨rfl, hv⟩; have kD2 := Lib.hid (kD1.out.up hv); have kS2 : Hid (v2.cell? ⟨bx, 1, none⟩ = some (.int .i64 B) ∧ v2.cell? ⟨b, 0, none⟩ = some (.pointer (some ⟨p, 0, none⟩)) ∧ v2.cell? ⟨yd, 0, none⟩ = some (.slice da m dc) ∧ v2.cell? ⟨yd, 1, none⟩ = some (.int .i64 al) ∧ v2.cell? ⟨yd, 2, none⟩ = some (.int .i64 un) ∧ v2.cell? ⟨yd, 3, none⟩ = some (.int .i64 me) ∧ v2.cell? ⟨yd, 4, none⟩ = some (.int .i64 fi) ∧ v2.cell? ⟨yd, 5, none⟩ = some (.int .i64 lA)) := Lib.hid ⟨kcell hv kS1.out.1, kcell hv kS1.out.2.1, kcell hv kS1.out.2.2.1, kcell hv kS1.out.2.2.2.1, kcell hv kS1.out.2.2.2.2.1, kcell hv kS1.out.2.2.2.2.2.1, kcell hv kS1.out.2.2.2.2.2.2.1, kcell hv kS1.out.2.2.2.2.2.2.2⟩; have kB2 := Lib.hid (up2 kB1.out hv); clear hv) | (go_at_call 14; (with_reducible refine ((HR2.out.1 _ kD2.out).mono ?_)); rintro e v3 ⟨rfl, hv⟩; have kD3 := Lib.hid (kD2.out.up hv); have kS3 : Hid (v3.cell? ⟨bx, 1, none⟩ = some (.int .i64 B) ∧ v3.cell? ⟨b, 0, none⟩ = some (.pointer (some ⟨p, 0, none⟩)) ∧ v3.cell? ⟨yd, 0, none⟩ = some (.slice da m dc) ∧ v3.cell? ⟨yd, 1, none⟩ = some (.int .i64 al) ∧ v3.cell? ⟨yd, 2, none⟩ = some (.int .i64 un) ∧ v3.cell? ⟨yd, 3, none⟩ = some (.int .i64 me) ∧ v3.cell? ⟨yd, 4, none⟩ = some (.int .i64 fi) ∧ v3.cell? ⟨yd, 5, none⟩ = some (.int .i64 lA)) := Lib.hid ⟨kcell hv kS2.out.1, kcell hv kS2.out.2.1, kcell hv kS2.out.2.2.1, kcell hv kS2.out.2.2.2.1, kcell hv kS2.out.2.2.2.2.1, kcell hv kS2.out.2.2.2.2.2.1, kcell hv kS2.out.2.2.2.2.2.2.1, kcell hv kS2.out.2.2.2.2.2.2.2⟩; have kB3 := Lib.hid (up2 kB2.out hv); clear hv) | (go_at_call 15; (with_reducible refine ((HR2.out.2 _ kD3.out).mono ?_)); rintro e v4 ⟨rfl, hv⟩; have kD4 := Lib.hid (kD3.out.up hv); have kS4 : Hid (v4.cell? ⟨bx, 1, none⟩ = some (.int .i64 B) ∧ v4.cell? ⟨b, 0, none⟩ = some (.pointer (some ⟨p, 0, none⟩)) ∧ v4.cell? ⟨yd, 0, none⟩ = some (.slice da m dc) ∧ v4.cell? ⟨yd, 1, none⟩ = some (.int .i64 al) ∧ v4.cell? ⟨yd, 2, none⟩ = some (.int .i64 un) ∧ v4.cell? ⟨yd, 3, none⟩ = some (.int .i64 me) ∧ v4.cell? ⟨yd, 4, none⟩ = some (.int .i64 fi) ∧ v4.cell? ⟨yd, 5, none⟩ = some (.int .i64 lA)) := Lib.hid ⟨kcell hv kS3.out.1, kcell hv kS3.out.2.1, kcell hv kS3.out.2.2.1, kcell hv kS3.out.2.2.2.1, kcell hv kS3.out.2.2.2.2.1, kcell hv kS3.out.2.2.2.2.2.1, kcell hv kS3.out.2.2.2.2.2.2.1, kcell hv kS3.out.2.2.2.2.2.2.2⟩; have kB4 := Lib.hid (up2 kB3.out hv); clear hv) | (go_at_call 16; (with_reducible refine ((HR3.out.1 _ kD4.out).mono ?_)); rintro e v5 ⟨rfl, hv⟩; have kD5 := Lib.hid (kD4.out.up hv); have kS5 : Hid (v5.cell? ⟨bx, 1, none⟩ = some (.int .i64 B) ∧ v5.cell? ⟨b, 0, none⟩ = some (.pointer (some ⟨p, 0, none⟩)) ∧ v5.cell? ⟨yd, 0, none⟩ = some (.slice da m dc) ∧ v5.cell? ⟨yd, 1, none⟩ = some (.int .i64 al) ∧ v5.cell? ⟨yd, 2, none⟩ = some (.int .i64 un) ∧ v5.cell? ⟨yd, 3, none⟩ = some (.int .i64 me) ∧ v5.cell? ⟨yd, 4, none⟩ = some (.int .i64 fi) ∧ v5.cell? ⟨yd, 5, none⟩ = some (.int .i64 lA)) := Lib.hid ⟨kcell hv kS4.out.1, kcell hv kS4.out.2.1, kcell hv kS4.out.2.2.1, kcell hv kS4.out.2.2.2.1, kcell hv kS4.out.2.2.2.2.1, kcell hv kS4.out.2.2.2.2.2.1, kcell hv kS4.out.2.2.2.2.2.2.1, kcell hv kS4.out.2.2.2.2.2.2.2⟩; have kB5 := Lib.hid (up2 kB4.out hv); clear hv) | (go_at_call 17; (with_reducible refine ((HR3.out.2 _ kD5.out).mono ?_)); rintro e v6 ⟨rfl, hv⟩; have kD6 := Lib.hid (kD5.out.up hv); have kS6 : Hid (v6.cell? ⟨bx, 1, none⟩ = some (.int .i64 B) ∧ v6.cell? ⟨b, 0, none⟩ = some (.pointer (some ⟨p, 0, none⟩)) ∧ v6.cell? ⟨yd, 0, none⟩ = some (.slice da m dc) ∧ v6.cell? ⟨yd, 1, none⟩ = some (.int .i64 al) ∧ v6.cell? ⟨yd, 2, none⟩ = some (.int .i64 un) ∧ v6.cell? ⟨yd, 3, none⟩ = some (.int .i64 me) ∧ v6.cell? ⟨yd, 4, none⟩ = some (.int .i64 fi) ∧ v6.cell? ⟨yd, 5, none⟩ = some (.int .i64 lA)) := Lib.hid ⟨kcell hv kS5.out.1, kcell hv kS5.out.2.1, kcell hv kS5.out.2.2.1, kcell hv kS5.out.2.2.2.1, kcell hv kS5.out.2.2.2.2.1, kcell hv kS5.out.2.2.2.2.2.1, kcell hv kS5.out.2.2.2.2.2.2.1, kcell hv kS5.out.2.2.2.2.2.2.2⟩; have kB6 := Lib.hid (up2 kB5.out hv); clear hv) | (go_at_call 18; (with_reducible refine ((HR4.out.1 _ kD6.out).mono ?_)); rintro e v7 ⟨rfl, hv⟩; have kD7 := Lib.hid (kD6.out.up hv); have kS7 : Hid (v7.cell? ⟨bx, 1, none⟩ = some (.int .i64 B) ∧ v7.cell? ⟨b, 0, none⟩ = some (.pointer (some ⟨p, 0, none⟩)) ∧ v7.cell? ⟨yd, 0, none⟩ = some (.slice da m dc) ∧ v7.cell? ⟨yd, 1, none⟩ = some (.int .i64 al) ∧ v7.cell? ⟨yd, 2, none⟩ = some (.int .i64 un) ∧ v7.cell? ⟨yd, 3, none⟩ = some (.int .i64 me) ∧ v7.cell? ⟨yd, 4, none⟩ = some (.int .i64 fi) ∧ v7.cell? ⟨yd, 5, none⟩ = some (.int .i64 lA)) := Lib.hid ⟨kcell hv kS6.out.1, kcell hv kS6.out.2.1, kcell hv kS6.out.2.2.1, kcell hv kS6.out.2.2.2.1, kcell hv kS6.out.2.2.2.2.1, kcell hv kS6.out.2.2.2.2.2.1, kcell hv kS6.out.2.2.2.2.2.2.1, kcell hv kS6.out.2.2.2.2.2.2.2⟩; have kB7 := Lib.hid (up2 kB6.out hv); clear hv) | (go_at_call 19; (with_reducible refine ((HR4.out.2 _ kD7.out).mono ?_)); rintro e v8 ⟨rfl, hv⟩; have kD8 := Lib.hid (kD7.out.up hv); have kS8 : Hid (v8.cell? ⟨bx, 1, none⟩ = some (.int .i64 B) ∧ v8.cell? ⟨b, 0, none⟩ = some (.pointer (some ⟨p, 0, none⟩)) ∧ v8.cell? ⟨yd, 0, none⟩ = some (.slice da m dc) ∧ v8.cell? ⟨yd, 1, none⟩ = some (.int .i64 al) ∧ v8.cell? ⟨yd, 2, none⟩ = some (.int .i64 un) ∧ v8.cell? ⟨yd, 3, none⟩ = some (.int .i64 me) ∧ v8.cell? ⟨yd, 4, none⟩ = some (.int .i64 fi) ∧ v8.cell? ⟨yd, 5, none⟩ = some (.int .i64 lA)) := Lib.hid ⟨kcell hv kS7.out.1, kcell hv kS7.out.2.1, kcell hv kS7.out.2.2.1, kcell hv kS7.out.2.2.2.1, kcell hv kS7.out.2.2.2.2.1, kcell hv kS7.out.2.2.2.2.2.1, kcell hv kS7.out.2.2.2.2.2.2.1, kcell hv kS7.out.2.2.2.2.2.2.2⟩; have kB8 := Lib.hid (up2 kB7.out hv); clear hv) | (go_at_call 20; (with_reducible refine ((HR5.out.1 _ kD8.out).mono ?_)); rintro e v9 ⟨rfl, hv⟩; have kD9 := Lib.hid (kD8.out.up hv); have kS9 : Hid (v9.cell? ⟨bx, 1, none⟩ = some (.int .i64 B) ∧ v9.cell? ⟨b, 0, none⟩ = some (.pointer (some ⟨p, 0, none⟩)) ∧ v9.cell? ⟨yd, 0, none⟩ = some (.slice da m dc) ∧ v9.cell? ⟨yd, 1, none⟩ = some (.int .i64 al) ∧ v9.cell? ⟨yd, 2, none⟩ = some (.int .i64 un) ∧ v9.cell? ⟨yd, 3, none⟩ = some (.int .i64 me) ∧ v9.cell? ⟨yd, 4, none⟩ = some (.int .i64 fi) ∧ v9.cell? ⟨yd, 5, none⟩ = some (.int .i64 lA)) := Lib.hid ⟨kcell hv kS8.out.1, kcell hv kS8.out.2.1, kcell hv kS8.out.2.2.1, kcell hv kS8.out.2.2.2.1, kcell hv kS8.out.2.2.2.2.1, kcell hv kS8.out.2.2.2.2.2.1, kcell hv kS8.out.2.2.2.2.2.2.1, kcell hv kS8.out.2.2.2.2.2.2.2⟩; have kB9 := Lib.hid (up2 kB8.out hv); clear hv) | (go_at_call 21; (with_reducible refine ((HR5.out.2 _ kD9.out).mono ?_)); rintro e v10 ⟨rfl, hv⟩; have kD10 := Lib.hid (kD9.out.up hv); have kS10 : Hid (v10.cell? ⟨bx, 1, none⟩ = some (.int .i64 B) ∧ v10.cell? ⟨b, 0, none⟩ = some (.pointer (some ⟨p, 0, none⟩)) ∧ v10.cell? ⟨yd, 0, none⟩ = some (.slice da m dc) ∧ v10.cell? ⟨yd, 1, none⟩ = some (.int .i64 al) ∧ v10.cell? ⟨yd, 2, none⟩ = some (.int .i64 un) ∧ v10.cell? ⟨yd, 3, none⟩ = some (.int .i64 me) ∧ v10.cell? ⟨yd, 4, none⟩ = some (.int .i64 fi) ∧ v10.cell? ⟨yd, 5, none⟩ = some (.int .i64 lA)) := Lib.hid ⟨kcell hv kS9.out.1, kcell hv kS9.out.2.1, kcell hv kS9.out.2.2.1, kcell hv kS9.out.2.2.2.1, kcell hv kS9.out.2.2.2.2.1, kcell hv kS9.out.2.2.2.2.2.1, kcell hv kS9.out.2.2.2.2.2.2.1, kcell hv kS9.out.2.2.2.2.2.2.2⟩; have kB10 := Lib.hid (up2 kB9.out hv); clear hv) | (go_at_call 23; (with_reducible refine (HDu.out _ kD10.out).mono ?_); rintro e v11 ⟨a', c', rfl, ho, hv⟩; have kS11 : Hid (v11.cell? ⟨bx, 1, none⟩ = some (.int .i64 B) ∧ v11.cell? ⟨b, 0, none⟩ = some (.pointer (some ⟨p, 0, none⟩)) ∧ v11.cell? ⟨yd, 0, none⟩ = some (.slice da m dc) ∧ v11.cell? ⟨yd, 1, none⟩ = some (.int .i64 al) ∧ v11.cell? ⟨yd, 2, none⟩ = some (.int .i64 un) ∧ v11.cell? ⟨yd, 3, none⟩ = some (.int .i64 me) ∧ v11.cell? ⟨yd, 4, none⟩ = some (.int .i64 fi) ∧ v11.cell? ⟨yd, 5, none⟩ = some (.int .i64 lA)) := Lib.hid ⟨kcell hv kS10.out.1, kcell hv kS10.out.2.1, kcell hv kS10.out.2.2.1, kcell hv kS10.out.2.2.2.1, kcell hv kS10.out.2.2.2.2.1, kcell hv kS10.out.2.2.2.2.2.1, kcell hv kS10.out.2.2.2.2.2.2.1, kcell hv kS10.out.2.2.2.2.2.2.2⟩; have kB11 := Lib.hid (up2 kB10.out hv); have kO11 := Lib.hid ((own_rws in_len ho HMm.out.symm).1); have kC11 := Lib.hid (HOn.out v11 a' c' kO11.out (up2 HBw.out kB11.out)); clear ho hv) | (go_at_call 22; (with_reducible refine (kC11.out).mono ?_); rintro e v12 ⟨rfl, hv⟩; have kS12 : Hid (v12.cell? ⟨bx, 1, none⟩ = some (.int .i64 B) ∧ v12.cell? ⟨b, 0, none⟩ = some (.pointer (some ⟨p, 0, none⟩)) ∧ v12.cell? ⟨yd, 0, none⟩ = some (.slice da m dc) ∧ v12.cell? ⟨yd, 1, none⟩ = some (.int .i64 al) ∧ v12.cell? ⟨yd, 2, none⟩ = some (.int .i64 un) ∧ v12.cell? ⟨yd, 3, none⟩ = some (.int .i64 me) ∧ v12.cell? ⟨yd, 4, none⟩ = some (.int .i64 fi) ∧ v12.cell? ⟨yd, 5, none⟩ = some (.int .i64 lA)) := Lib.hid ⟨kcell hv kS11.out.1, kcell hv kS11.out.2.1, kcell hv kS11.out.2.2.1, kcell hv kS11.out.2.2.2.1, kcell hv kS11.out.2.2.2.2.1, kcell hv kS11.out.2.2.2.2.2.1, kcell hv kS11.out.2.2.2.2.2.2.1, kcell hv kS11.out.2.2.2.2.2.2.2⟩; have kB12 := Lib.hid (up2 kB11.out hv); clear hv))
          all_goals
            go_wp2_with fail
            exact ⟨⟨i + 1, by omega, by go_num, _, _, HDb5.out.up kB12.out, HDy5.out.up kB12.out⟩, by simp [intOf]; omega⟩
      by_cases q1 : A = 1
      · have hst : stT D E ⟨A, B, C⟩ = E := by unfold stT; rw [if_neg q0]
        have hsl : stL D E L ⟨A, B, C⟩ = onwS D E L B C := by unfold stL; rw [if_pos q1]
        have hse : stE D E L ⟨A, B, C⟩ = onwE D E L B C := by unfold stE; rw [if_neg q0, if_pos q1]
        rw [hst, hsl] at HS4
        obtain ⟨X, hX⟩ : ∃ X, X = onwE D E L B C := ⟨_, rfl⟩
        obtain ⟨E1, hE1⟩ : ∃ E1, E1 = E := ⟨_, rfl⟩
        obtain ⟨L1, hL1⟩ : ∃ L1, L1 = onwS D E L B C := ⟨_, rfl⟩
        rw [hse, ← hX]
        rw [← hL1] at HS4
        have HTe := Lib.hid (HQO.out _ _ _ _ _ _ _ _ _ HS4.out B C HAy.out)
        rw [← hX, ← hL1] at HTe
        rw [← hE1] at HTe
        have q' : (A == 1) = true := by simpa using q1
        have q0' : (A == 0) = false := by simpa using q0
        clear hst hsl hse hX hE1 hL1 q0 q1
        go_wp2_with fail
        refine HTe.out.mono ?_
        rintro e w5 ⟨rfl, hT5, hO5⟩
        have HDb5 := Lib.hid hT5
        have HBx5 := Lib.hid (hO5 _ _ _ HX4.out (by decide) (by decide))
        have HDy5 := Lib.hid (hO5 _ _ _ HY4.out (by decide) (by decide))
        clear hT5 hO5 y0 y1 y2
        obtain ⟨p, hDp⟩ := HDb5.out.read
        obtain ⟨z1, z2, z3, z5, bo, hr1, hr2, hr3, hr4, hr5⟩ := dp_reads D E1 L1 b p r k B day
        have HR1 := Lib.hid hr1
        have HR2 := Lib.hid hr2
        have HR3 := Lib.hid hr3
        have HR4 := Lib.hid hr4
        have HR5 := Lib.hid hr5
        have HDu := Lib.hid (fun (W : World) (h : Dp W b p r k D E1 L1) => HDuty.out W b p r k E1 L1 h (by omega))
        have kD0 : Hid (Dp w5.drew b p r k D E1 L1) := Lib.hid (hDp.up (Below.refl _ _).drew)
        have kB0 : Hid (Below w5.heap.size w5 w5.drew) := Lib.hid (Below.refl _ _).drew
        have HBw : Hid (Below w.heap.size w w5) := Lib.hid (up2 HB1.out HDb5.out.bel)
        have hx5 := HBx5.out
        have hy5 := HDy5.out
        have hp5 := hDp.cell
        have b1 := hx5.cell 1
        have y0 := hy5.cell 0
        have y1 := hy5.cell 1
        have y2 := hy5.cell 2
        have y3 := hy5.cell 3
        have y4 := hy5.cell 4
        have y5 := hy5.cell 5
        simp at b1 y0 y1 y2 y3 y4 y5
        have kS0 : Hid (w5.drew.cell? ⟨bx, 1, none⟩ = some (.int .i64 B) ∧ w5.drew.cell? ⟨b, 0, none⟩ = some (.pointer (some ⟨p, 0, none⟩)) ∧ w5.drew.cell? ⟨yd, 0, none⟩ = some (.slice da m dc) ∧ w5.drew.cell? ⟨yd, 1, none⟩ = some (.int .i64 al) ∧ w5.drew.cell? ⟨yd, 2, none⟩ = some (.int .i64 un) ∧ w5.drew.cell? ⟨yd, 3, none⟩ = some (.int .i64 me) ∧ w5.drew.cell? ⟨yd, 4, none⟩ = some (.int .i64 fi) ∧ w5.drew.cell? ⟨yd, 5, none⟩ = some (.int .i64 lA)) := Lib.hid ⟨b1, hp5, y0, y1, y2, y3, y4, y5⟩
        have HOn := Lib.hid (fun (W : World) (a : Option Addr) (c : Nat) (q1 : InA W a D.ls) (q2 : Below w.heap.size w W) => HOne.out W a c q1 q2 (by omega))
        clear hr1 hr2 hr3 hr4 hr5 hDp hx5 hy5 hp5 b1 y0 y1 y2 y3 y4 y5
        go_wp2_with fail
        go_region_held3 (fun w' => w'.cell? ⟨bx, 1, none⟩ = some (.int .i64 B) ∧ w'.cell? ⟨b, 0, none⟩ = some (.pointer (some ⟨p, 0, none⟩)) ∧ w'.cell? ⟨yd, 0, none⟩ = some (.slice da m dc) ∧ w'.cell? ⟨yd, 1, none⟩ = some (.int .i64 al) ∧ w'.cell? ⟨yd, 2, none⟩ = some (.int .i64 un) ∧ w'.cell? ⟨yd, 3, none⟩ = some (.int .i64 me) ∧ w'.cell? ⟨yd, 4, none⟩ = some (.int .i64 fi) ∧ w'.cell? ⟨yd, 5, none⟩ = some (.int .i64 lA))
          (first | (go_keep; done) | (with_reducible exact kS0.out) | (with_reducible exact kS1.out) | (with_reducible exact kS2.out) | (with_reducible exact kS3.out) | (with_reducible exact kS4.out) | (with_reducible exact kS5.out) | (with_reducible exact kS6.out) | (with_reducible exact kS7.out) | (with_reducible exact kS8.out) | (with_reducible exact kS9.out) | (with_reducible exact kS10.out) | (with_reducible exact kS11.out) | (with_reducible exact kS12.out))
          (first | (go_at_call 14; (with_reducible refine ((HR1.out.1 _ kD0.out).mono ?_)); rintro e v1 ⟨rfl, hv⟩; have kD1 := Lib.hid (kD0.out.up hv); have kS1 : Hid (v1.cell? ⟨bx, 1, none⟩ = some (.int .i64 B) ∧ v1.cell? ⟨b, 0, none⟩ = some (.pointer (some ⟨p, 0, none⟩)) ∧ v1.cell? ⟨yd, 0, none⟩ = some (.slice da m dc) ∧ v1.cell? ⟨yd, 1, none⟩ = some (.int .i64 al) ∧ v1.cell? ⟨yd, 2, none⟩ = some (.int .i64 un) ∧ v1.cell? ⟨yd, 3, none⟩ = some (.int .i64 me) ∧ v1.cell? ⟨yd, 4, none⟩ = some (.int .i64 fi) ∧ v1.cell? ⟨yd, 5, none⟩ = some (.int .i64 lA)) := Lib.hid ⟨kcell hv kS0.out.1, kcell hv kS0.out.2.1, kcell hv kS0.out.2.2.1, kcell hv kS0.out.2.2.2.1, kcell hv kS0.out.2.2.2.2.1, kcell hv kS0.out.2.2.2.2.2.1, kcell hv kS0.out.2.2.2.2.2.2.1, kcell hv kS0.out.2.2.2.2.2.2.2⟩; have kB1 := Lib.hid (up2 kB0.out hv); clear hv) | (go_at_call 15; (with_reducible refine ((HR1.out.2 _ kD1.out).mono ?_)); rintro e v2 ⟨rfl, hv⟩; have kD2 := Lib.hid (kD1.out.up hv); have kS2 : Hid (v2.cell? ⟨bx, 1, none⟩ = some (.int .i64 B) ∧ v2.cell? ⟨b, 0, none⟩ = some (.pointer (some ⟨p, 0, none⟩)) ∧ v2.cell? ⟨yd, 0, none⟩ = some (.slice da m dc) ∧ v2.cell? ⟨yd, 1, none⟩ = some (.int .i64 al) ∧ v2.cell? ⟨yd, 2, none⟩ = some (.int .i64 un) ∧ v2.cell? ⟨yd, 3, none⟩ = some (.int .i64 me) ∧ v2.cell? ⟨yd, 4, none⟩ = some (.int .i64 fi) ∧ v2.cell? ⟨yd, 5, none⟩ = some (.int .i64 lA)) := Lib.hid ⟨kcell hv kS1.out.1, kcell hv kS1.out.2.1, kcell hv kS1.out.2.2.1, kcell hv kS1.out.2.2.2.1, kcell hv kS1.out.2.2.2.2.1, kcell hv kS1.out.2.2.2.2.2.1, kcell hv kS1.out.2.2.2.2.2.2.1, kcell hv kS1.out.2.2.2.2.2.2.2⟩; have kB2 := Lib.hid (up2 kB1.out hv); clear hv) | (go_at_call 14; (with_reducible refine ((HR2.out.1 _ kD2.out).mono ?_)); rintro e v3 ⟨rfl, hv⟩; have kD3 := Lib.hid (kD2.out.up hv); have kS3 : Hid (v3.cell? ⟨bx, 1, none⟩ = some (.int .i64 B) ∧ v3.cell? ⟨b, 0, none⟩ = some (.pointer (some ⟨p, 0, none⟩)) ∧ v3.cell? ⟨yd, 0, none⟩ = some (.slice da m dc) ∧ v3.cell? ⟨yd, 1, none⟩ = some (.int .i64 al) ∧ v3.cell? ⟨yd, 2, none⟩ = some (.int .i64 un) ∧ v3.cell? ⟨yd, 3, none⟩ = some (.int .i64 me) ∧ v3.cell? ⟨yd, 4, none⟩ = some (.int .i64 fi) ∧ v3.cell? ⟨yd, 5, none⟩ = some (.int .i64 lA)) := Lib.hid ⟨kcell hv kS2.out.1, kcell hv kS2.out.2.1, kcell hv kS2.out.2.2.1, kcell hv kS2.out.2.2.2.1, kcell hv kS2.out.2.2.2.2.1, kcell hv kS2.out.2.2.2.2.2.1, kcell hv kS2.out.2.2.2.2.2.2.1, kcell hv kS2.out.2.2.2.2.2.2.2⟩; have kB3 := Lib.hid (up2 kB2.out hv); clear hv) | (go_at_call 15; (with_reducible refine ((HR2.out.2 _ kD3.out).mono ?_)); rintro e v4 ⟨rfl, hv⟩; have kD4 := Lib.hid (kD3.out.up hv); have kS4 : Hid (v4.cell? ⟨bx, 1, none⟩ = some (.int .i64 B) ∧ v4.cell? ⟨b, 0, none⟩ = some (.pointer (some ⟨p, 0, none⟩)) ∧ v4.cell? ⟨yd, 0, none⟩ = some (.slice da m dc) ∧ v4.cell? ⟨yd, 1, none⟩ = some (.int .i64 al) ∧ v4.cell? ⟨yd, 2, none⟩ = some (.int .i64 un) ∧ v4.cell? ⟨yd, 3, none⟩ = some (.int .i64 me) ∧ v4.cell? ⟨yd, 4, none⟩ = some (.int .i64 fi) ∧ v4.cell? ⟨yd, 5, none⟩ = some (.int .i64 lA)) := Lib.hid ⟨kcell hv kS3.out.1, kcell hv kS3.out.2.1, kcell hv kS3.out.2.2.1, kcell hv kS3.out.2.2.2.1, kcell hv kS3.out.2.2.2.2.1, kcell hv kS3.out.2.2.2.2.2.1, kcell hv kS3.out.2.2.2.2.2.2.1, kcell hv kS3.out.2.2.2.2.2.2.2⟩; have kB4 := Lib.hid (up2 kB3.out hv); clear hv) | (go_at_call 16; (with_reducible refine ((HR3.out.1 _ kD4.out).mono ?_)); rintro e v5 ⟨rfl, hv⟩; have kD5 := Lib.hid (kD4.out.up hv); have kS5 : Hid (v5.cell? ⟨bx, 1, none⟩ = some (.int .i64 B) ∧ v5.cell? ⟨b, 0, none⟩ = some (.pointer (some ⟨p, 0, none⟩)) ∧ v5.cell? ⟨yd, 0, none⟩ = some (.slice da m dc) ∧ v5.cell? ⟨yd, 1, none⟩ = some (.int .i64 al) ∧ v5.cell? ⟨yd, 2, none⟩ = some (.int .i64 un) ∧ v5.cell? ⟨yd, 3, none⟩ = some (.int .i64 me) ∧ v5.cell? ⟨yd, 4, none⟩ = some (.int .i64 fi) ∧ v5.cell? ⟨yd, 5, none⟩ = some (.int .i64 lA)) := Lib.hid ⟨kcell hv kS4.out.1, kcell hv kS4.out.2.1, kcell hv kS4.out.2.2.1, kcell hv kS4.out.2.2.2.1, kcell hv kS4.out.2.2.2.2.1, kcell hv kS4.out.2.2.2.2.2.1, kcell hv kS4.out.2.2.2.2.2.2.1, kcell hv kS4.out.2.2.2.2.2.2.2⟩; have kB5 := Lib.hid (up2 kB4.out hv); clear hv) | (go_at_call 17; (with_reducible refine ((HR3.out.2 _ kD5.out).mono ?_)); rintro e v6 ⟨rfl, hv⟩; have kD6 := Lib.hid (kD5.out.up hv); have kS6 : Hid (v6.cell? ⟨bx, 1, none⟩ = some (.int .i64 B) ∧ v6.cell? ⟨b, 0, none⟩ = some (.pointer (some ⟨p, 0, none⟩)) ∧ v6.cell? ⟨yd, 0, none⟩ = some (.slice da m dc) ∧ v6.cell? ⟨yd, 1, none⟩ = some (.int .i64 al) ∧ v6.cell? ⟨yd, 2, none⟩ = some (.int .i64 un) ∧ v6.cell? ⟨yd, 3, none⟩ = some (.int .i64 me) ∧ v6.cell? ⟨yd, 4, none⟩ = some (.int .i64 fi) ∧ v6.cell? ⟨yd, 5, none⟩ = some (.int .i64 lA)) := Lib.hid ⟨kcell hv kS5.out.1, kcell hv kS5.out.2.1, kcell hv kS5.out.2.2.1, kcell hv kS5.out.2.2.2.1, kcell hv kS5.out.2.2.2.2.1, kcell hv kS5.out.2.2.2.2.2.1, kcell hv kS5.out.2.2.2.2.2.2.1, kcell hv kS5.out.2.2.2.2.2.2.2⟩; have kB6 := Lib.hid (up2 kB5.out hv); clear hv) | (go_at_call 18; (with_reducible refine ((HR4.out.1 _ kD6.out).mono ?_)); rintro e v7 ⟨rfl, hv⟩; have kD7 := Lib.hid (kD6.out.up hv); have kS7 : Hid (v7.cell? ⟨bx, 1, none⟩ = some (.int .i64 B) ∧ v7.cell? ⟨b, 0, none⟩ = some (.pointer (some ⟨p, 0, none⟩)) ∧ v7.cell? ⟨yd, 0, none⟩ = some (.slice da m dc) ∧ v7.cell? ⟨yd, 1, none⟩ = some (.int .i64 al) ∧ v7.cell? ⟨yd, 2, none⟩ = some (.int .i64 un) ∧ v7.cell? ⟨yd, 3, none⟩ = some (.int .i64 me) ∧ v7.cell? ⟨yd, 4, none⟩ = some (.int .i64 fi) ∧ v7.cell? ⟨yd, 5, none⟩ = some (.int .i64 lA)) := Lib.hid ⟨kcell hv kS6.out.1, kcell hv kS6.out.2.1, kcell hv kS6.out.2.2.1, kcell hv kS6.out.2.2.2.1, kcell hv kS6.out.2.2.2.2.1, kcell hv kS6.out.2.2.2.2.2.1, kcell hv kS6.out.2.2.2.2.2.2.1, kcell hv kS6.out.2.2.2.2.2.2.2⟩; have kB7 := Lib.hid (up2 kB6.out hv); clear hv) | (go_at_call 19; (with_reducible refine ((HR4.out.2 _ kD7.out).mono ?_)); rintro e v8 ⟨rfl, hv⟩; have kD8 := Lib.hid (kD7.out.up hv); have kS8 : Hid (v8.cell? ⟨bx, 1, none⟩ = some (.int .i64 B) ∧ v8.cell? ⟨b, 0, none⟩ = some (.pointer (some ⟨p, 0, none⟩)) ∧ v8.cell? ⟨yd, 0, none⟩ = some (.slice da m dc) ∧ v8.cell? ⟨yd, 1, none⟩ = some (.int .i64 al) ∧ v8.cell? ⟨yd, 2, none⟩ = some (.int .i64 un) ∧ v8.cell? ⟨yd, 3, none⟩ = some (.int .i64 me) ∧ v8.cell? ⟨yd, 4, none⟩ = some (.int .i64 fi) ∧ v8.cell? ⟨yd, 5, none⟩ = some (.int .i64 lA)) := Lib.hid ⟨kcell hv kS7.out.1, kcell hv kS7.out.2.1, kcell hv kS7.out.2.2.1, kcell hv kS7.out.2.2.2.1, kcell hv kS7.out.2.2.2.2.1, kcell hv kS7.out.2.2.2.2.2.1, kcell hv kS7.out.2.2.2.2.2.2.1, kcell hv kS7.out.2.2.2.2.2.2.2⟩; have kB8 := Lib.hid (up2 kB7.out hv); clear hv) | (go_at_call 20; (with_reducible refine ((HR5.out.1 _ kD8.out).mono ?_)); rintro e v9 ⟨rfl, hv⟩; have kD9 := Lib.hid (kD8.out.up hv); have kS9 : Hid (v9.cell? ⟨bx, 1, none⟩ = some (.int .i64 B) ∧ v9.cell? ⟨b, 0, none⟩ = some (.pointer (some ⟨p, 0, none⟩)) ∧ v9.cell? ⟨yd, 0, none⟩ = some (.slice da m dc) ∧ v9.cell? ⟨yd, 1, none⟩ = some (.int .i64 al) ∧ v9.cell? ⟨yd, 2, none⟩ = some (.int .i64 un) ∧ v9.cell? ⟨yd, 3, none⟩ = some (.int .i64 me) ∧ v9.cell? ⟨yd, 4, none⟩ = some (.int .i64 fi) ∧ v9.cell? ⟨yd, 5, none⟩ = some (.int .i64 lA)) := Lib.hid ⟨kcell hv kS8.out.1, kcell hv kS8.out.2.1, kcell hv kS8.out.2.2.1, kcell hv kS8.out.2.2.2.1, kcell hv kS8.out.2.2.2.2.1, kcell hv kS8.out.2.2.2.2.2.1, kcell hv kS8.out.2.2.2.2.2.2.1, kcell hv kS8.out.2.2.2.2.2.2.2⟩; have kB9 := Lib.hid (up2 kB8.out hv); clear hv) | (go_at_call 21; (with_reducible refine ((HR5.out.2 _ kD9.out).mono ?_)); rintro e v10 ⟨rfl, hv⟩; have kD10 := Lib.hid (kD9.out.up hv); have kS10 : Hid (v10.cell? ⟨bx, 1, none⟩ = some (.int .i64 B) ∧ v10.cell? ⟨b, 0, none⟩ = some (.pointer (some ⟨p, 0, none⟩)) ∧ v10.cell? ⟨yd, 0, none⟩ = some (.slice da m dc) ∧ v10.cell? ⟨yd, 1, none⟩ = some (.int .i64 al) ∧ v10.cell? ⟨yd, 2, none⟩ = some (.int .i64 un) ∧ v10.cell? ⟨yd, 3, none⟩ = some (.int .i64 me) ∧ v10.cell? ⟨yd, 4, none⟩ = some (.int .i64 fi) ∧ v10.cell? ⟨yd, 5, none⟩ = some (.int .i64 lA)) := Lib.hid ⟨kcell hv kS9.out.1, kcell hv kS9.out.2.1, kcell hv kS9.out.2.2.1, kcell hv kS9.out.2.2.2.1, kcell hv kS9.out.2.2.2.2.1, kcell hv kS9.out.2.2.2.2.2.1, kcell hv kS9.out.2.2.2.2.2.2.1, kcell hv kS9.out.2.2.2.2.2.2.2⟩; have kB10 := Lib.hid (up2 kB9.out hv); clear hv) | (go_at_call 23; (with_reducible refine (HDu.out _ kD10.out).mono ?_); rintro e v11 ⟨a', c', rfl, ho, hv⟩; have kS11 : Hid (v11.cell? ⟨bx, 1, none⟩ = some (.int .i64 B) ∧ v11.cell? ⟨b, 0, none⟩ = some (.pointer (some ⟨p, 0, none⟩)) ∧ v11.cell? ⟨yd, 0, none⟩ = some (.slice da m dc) ∧ v11.cell? ⟨yd, 1, none⟩ = some (.int .i64 al) ∧ v11.cell? ⟨yd, 2, none⟩ = some (.int .i64 un) ∧ v11.cell? ⟨yd, 3, none⟩ = some (.int .i64 me) ∧ v11.cell? ⟨yd, 4, none⟩ = some (.int .i64 fi) ∧ v11.cell? ⟨yd, 5, none⟩ = some (.int .i64 lA)) := Lib.hid ⟨kcell hv kS10.out.1, kcell hv kS10.out.2.1, kcell hv kS10.out.2.2.1, kcell hv kS10.out.2.2.2.1, kcell hv kS10.out.2.2.2.2.1, kcell hv kS10.out.2.2.2.2.2.1, kcell hv kS10.out.2.2.2.2.2.2.1, kcell hv kS10.out.2.2.2.2.2.2.2⟩; have kB11 := Lib.hid (up2 kB10.out hv); have kO11 := Lib.hid ((own_rws in_len ho HMm.out.symm).1); have kC11 := Lib.hid (HOn.out v11 a' c' kO11.out (up2 HBw.out kB11.out)); clear ho hv) | (go_at_call 22; (with_reducible refine (kC11.out).mono ?_); rintro e v12 ⟨rfl, hv⟩; have kS12 : Hid (v12.cell? ⟨bx, 1, none⟩ = some (.int .i64 B) ∧ v12.cell? ⟨b, 0, none⟩ = some (.pointer (some ⟨p, 0, none⟩)) ∧ v12.cell? ⟨yd, 0, none⟩ = some (.slice da m dc) ∧ v12.cell? ⟨yd, 1, none⟩ = some (.int .i64 al) ∧ v12.cell? ⟨yd, 2, none⟩ = some (.int .i64 un) ∧ v12.cell? ⟨yd, 3, none⟩ = some (.int .i64 me) ∧ v12.cell? ⟨yd, 4, none⟩ = some (.int .i64 fi) ∧ v12.cell? ⟨yd, 5, none⟩ = some (.int .i64 lA)) := Lib.hid ⟨kcell hv kS11.out.1, kcell hv kS11.out.2.1, kcell hv kS11.out.2.2.1, kcell hv kS11.out.2.2.2.1, kcell hv kS11.out.2.2.2.2.1, kcell hv kS11.out.2.2.2.2.2.1, kcell hv kS11.out.2.2.2.2.2.2.1, kcell hv kS11.out.2.2.2.2.2.2.2⟩; have kB12 := Lib.hid (up2 kB11.out hv); clear hv))
        all_goals
          go_wp2_with fail
          exact ⟨⟨i + 1, by omega, by go_num, _, _, HDb5.out.up kB12.out, HDy5.out.up kB12.out⟩, by simp [intOf]; omega⟩
      by_cases q2 : A = 2
      · have hst : stT D E ⟨A, B, C⟩ = E := by unfold stT; rw [if_neg q0]
        have hsl : stL D E L ⟨A, B, C⟩ = afrS L B C := by unfold stL; rw [if_neg q1, if_pos q2]
        have hse : stE D E L ⟨A, B, C⟩ = afrE L B C := by unfold stE; rw [if_neg q0, if_neg q1, if_pos q2]
        rw [hst, hsl] at HS4
        obtain ⟨X, hX⟩ : ∃ X, X = afrE L B C := ⟨_, rfl⟩
        obtain ⟨E1, hE1⟩ : ∃ E1, E1 = E := ⟨_, rfl⟩
        obtain ⟨L1, hL1⟩ : ∃ L1, L1 = afrS L B C := ⟨_, rfl⟩
        rw [hse, ← hX]
        rw [← hL1] at HS4
        have HTe := Lib.hid (HQA.out _ _ _ _ _ _ _ _ _ HS4.out B C HAy.out)
        rw [← hX, ← hL1] at HTe
        rw [← hE1] at HTe
        have q' : (A == 2) = true := by simpa using q2
        have q0' : (A == 0) = false := by simpa using q0
        have q1' : (A == 1) = false := by simpa using q1
        clear hst hsl hse hX hE1 hL1 q0 q1 q2
        go_wp2_with fail
        refine HTe.out.mono ?_
        rintro e w5 ⟨rfl, hT5, hO5⟩
        have HDb5 := Lib.hid hT5
        have HBx5 := Lib.hid (hO5 _ _ _ HX4.out (by decide) (by decide))
        have HDy5 := Lib.hid (hO5 _ _ _ HY4.out (by decide) (by decide))
        clear hT5 hO5 y0 y1 y2
        obtain ⟨p, hDp⟩ := HDb5.out.read
        obtain ⟨z1, z2, z3, z5, bo, hr1, hr2, hr3, hr4, hr5⟩ := dp_reads D E1 L1 b p r k B day
        have HR1 := Lib.hid hr1
        have HR2 := Lib.hid hr2
        have HR3 := Lib.hid hr3
        have HR4 := Lib.hid hr4
        have HR5 := Lib.hid hr5
        have HDu := Lib.hid (fun (W : World) (h : Dp W b p r k D E1 L1) => HDuty.out W b p r k E1 L1 h (by omega))
        have kD0 : Hid (Dp w5.drew b p r k D E1 L1) := Lib.hid (hDp.up (Below.refl _ _).drew)
        have kB0 : Hid (Below w5.heap.size w5 w5.drew) := Lib.hid (Below.refl _ _).drew
        have HBw : Hid (Below w.heap.size w w5) := Lib.hid (up2 HB1.out HDb5.out.bel)
        have hx5 := HBx5.out
        have hy5 := HDy5.out
        have hp5 := hDp.cell
        have b1 := hx5.cell 1
        have y0 := hy5.cell 0
        have y1 := hy5.cell 1
        have y2 := hy5.cell 2
        have y3 := hy5.cell 3
        have y4 := hy5.cell 4
        have y5 := hy5.cell 5
        simp at b1 y0 y1 y2 y3 y4 y5
        have kS0 : Hid (w5.drew.cell? ⟨bx, 1, none⟩ = some (.int .i64 B) ∧ w5.drew.cell? ⟨b, 0, none⟩ = some (.pointer (some ⟨p, 0, none⟩)) ∧ w5.drew.cell? ⟨yd, 0, none⟩ = some (.slice da m dc) ∧ w5.drew.cell? ⟨yd, 1, none⟩ = some (.int .i64 al) ∧ w5.drew.cell? ⟨yd, 2, none⟩ = some (.int .i64 un) ∧ w5.drew.cell? ⟨yd, 3, none⟩ = some (.int .i64 me) ∧ w5.drew.cell? ⟨yd, 4, none⟩ = some (.int .i64 fi) ∧ w5.drew.cell? ⟨yd, 5, none⟩ = some (.int .i64 lA)) := Lib.hid ⟨b1, hp5, y0, y1, y2, y3, y4, y5⟩
        have HOn := Lib.hid (fun (W : World) (a : Option Addr) (c : Nat) (q1 : InA W a D.ls) (q2 : Below w.heap.size w W) => HOne.out W a c q1 q2 (by omega))
        clear hr1 hr2 hr3 hr4 hr5 hDp hx5 hy5 hp5 b1 y0 y1 y2 y3 y4 y5
        go_wp2_with fail
        go_region_held3 (fun w' => w'.cell? ⟨bx, 1, none⟩ = some (.int .i64 B) ∧ w'.cell? ⟨b, 0, none⟩ = some (.pointer (some ⟨p, 0, none⟩)) ∧ w'.cell? ⟨yd, 0, none⟩ = some (.slice da m dc) ∧ w'.cell? ⟨yd, 1, none⟩ = some (.int .i64 al) ∧ w'.cell? ⟨yd, 2, none⟩ = some (.int .i64 un) ∧ w'.cell? ⟨yd, 3, none⟩ = some (.int .i64 me) ∧ w'.cell? ⟨yd, 4, none⟩ = some (.int .i64 fi) ∧ w'.cell? ⟨yd, 5, none⟩ = some (.int .i64 lA))
          (first | (go_keep; done) | (with_reducible exact kS0.out) | (with_reducible exact kS1.out) | (with_reducible exact kS2.out) | (with_reducible exact kS3.out) | (with_reducible exact kS4.out) | (with_reducible exact kS5.out) | (with_reducible exact kS6.out) | (with_reducible exact kS7.out) | (with_reducible exact kS8.out) | (with_reducible exact kS9.out) | (with_reducible exact kS10.out) | (with_reducible exact kS11.out) | (with_reducible exact kS12.out))
          (first | (go_at_call 14; (with_reducible refine ((HR1.out.1 _ kD0.out).mono ?_)); rintro e v1 ⟨rfl, hv⟩; have kD1 := Lib.hid (kD0.out.up hv); have kS1 : Hid (v1.cell? ⟨bx, 1, none⟩ = some (.int .i64 B) ∧ v1.cell? ⟨b, 0, none⟩ = some (.pointer (some ⟨p, 0, none⟩)) ∧ v1.cell? ⟨yd, 0, none⟩ = some (.slice da m dc) ∧ v1.cell? ⟨yd, 1, none⟩ = some (.int .i64 al) ∧ v1.cell? ⟨yd, 2, none⟩ = some (.int .i64 un) ∧ v1.cell? ⟨yd, 3, none⟩ = some (.int .i64 me) ∧ v1.cell? ⟨yd, 4, none⟩ = some (.int .i64 fi) ∧ v1.cell? ⟨yd, 5, none⟩ = some (.int .i64 lA)) := Lib.hid ⟨kcell hv kS0.out.1, kcell hv kS0.out.2.1, kcell hv kS0.out.2.2.1, kcell hv kS0.out.2.2.2.1, kcell hv kS0.out.2.2.2.2.1, kcell hv kS0.out.2.2.2.2.2.1, kcell hv kS0.out.2.2.2.2.2.2.1, kcell hv kS0.out.2.2.2.2.2.2.2⟩; have kB1 := Lib.hid (up2 kB0.out hv); clear hv) | (go_at_call 15; (with_reducible refine ((HR1.out.2 _ kD1.out).mono ?_)); rintro e v2 ⟨rfl, hv⟩; have kD2 := Lib.hid (kD1.out.up hv); have kS2 : Hid (v2.cell? ⟨bx, 1, none⟩ = some (.int .i64 B) ∧ v2.cell? ⟨b, 0, none⟩ = some (.pointer (some ⟨p, 0, none⟩)) ∧ v2.cell? ⟨yd, 0, none⟩ = some (.slice da m dc) ∧ v2.cell? ⟨yd, 1, none⟩ = some (.int .i64 al) ∧ v2.cell? ⟨yd, 2, none⟩ = some (.int .i64 un) ∧ v2.cell? ⟨yd, 3, none⟩ = some (.int .i64 me) ∧ v2.cell? ⟨yd, 4, none⟩ = some (.int .i64 fi) ∧ v2.cell? ⟨yd, 5, none⟩ = some (.int .i64 lA)) := Lib.hid ⟨kcell hv kS1.out.1, kcell hv kS1.out.2.1, kcell hv kS1.out.2.2.1, kcell hv kS1.out.2.2.2.1, kcell hv kS1.out.2.2.2.2.1, kcell hv kS1.out.2.2.2.2.2.1, kcell hv kS1.out.2.2.2.2.2.2.1, kcell hv kS1.out.2.2.2.2.2.2.2⟩; have kB2 := Lib.hid (up2 kB1.out hv); clear hv) | (go_at_call 14; (with_reducible refine ((HR2.out.1 _ kD2.out).mono ?_)); rintro e v3 ⟨rfl, hv⟩; have kD3 := Lib.hid (kD2.out.up hv); have kS3 : Hid (v3.cell? ⟨bx, 1, none⟩ = some (.int .i64 B) ∧ v3.cell? ⟨b, 0, none⟩ = some (.pointer (some ⟨p, 0, none⟩)) ∧ v3.cell? ⟨yd, 0, none⟩ = some (.slice da m dc) ∧ v3.cell? ⟨yd, 1, none⟩ = some (.int .i64 al) ∧ v3.cell? ⟨yd, 2, none⟩ = some (.int .i64 un) ∧ v3.cell? ⟨yd, 3, none⟩ = some (.int .i64 me) ∧ v3.cell? ⟨yd, 4, none⟩ = some (.int .i64 fi) ∧ v3.cell? ⟨yd, 5, none⟩ = some (.int .i64 lA)) := Lib.hid ⟨kcell hv kS2.out.1, kcell hv kS2.out.2.1, kcell hv kS2.out.2.2.1, kcell hv kS2.out.2.2.2.1, kcell hv kS2.out.2.2.2.2.1, kcell hv kS2.out.2.2.2.2.2.1, kcell hv kS2.out.2.2.2.2.2.2.1, kcell hv kS2.out.2.2.2.2.2.2.2⟩; have kB3 := Lib.hid (up2 kB2.out hv); clear hv) | (go_at_call 15; (with_reducible refine ((HR2.out.2 _ kD3.out).mono ?_)); rintro e v4 ⟨rfl, hv⟩; have kD4 := Lib.hid (kD3.out.up hv); have kS4 : Hid (v4.cell? ⟨bx, 1, none⟩ = some (.int .i64 B) ∧ v4.cell? ⟨b, 0, none⟩ = some (.pointer (some ⟨p, 0, none⟩)) ∧ v4.cell? ⟨yd, 0, none⟩ = some (.slice da m dc) ∧ v4.cell? ⟨yd, 1, none⟩ = some (.int .i64 al) ∧ v4.cell? ⟨yd, 2, none⟩ = some (.int .i64 un) ∧ v4.cell? ⟨yd, 3, none⟩ = some (.int .i64 me) ∧ v4.cell? ⟨yd, 4, none⟩ = some (.int .i64 fi) ∧ v4.cell? ⟨yd, 5, none⟩ = some (.int .i64 lA)) := Lib.hid ⟨kcell hv kS3.out.1, kcell hv kS3.out.2.1, kcell hv kS3.out.2.2.1, kcell hv kS3.out.2.2.2.1, kcell hv kS3.out.2.2.2.2.1, kcell hv kS3.out.2.2.2.2.2.1, kcell hv kS3.out.2.2.2.2.2.2.1, kcell hv kS3.out.2.2.2.2.2.2.2⟩; have kB4 := Lib.hid (up2 kB3.out hv); clear hv) | (go_at_call 16; (with_reducible refine ((HR3.out.1 _ kD4.out).mono ?_)); rintro e v5 ⟨rfl, hv⟩; have kD5 := Lib.hid (kD4.out.up hv); have kS5 : Hid (v5.cell? ⟨bx, 1, none⟩ = some (.int .i64 B) ∧ v5.cell? ⟨b, 0, none⟩ = some (.pointer (some ⟨p, 0, none⟩)) ∧ v5.cell? ⟨yd, 0, none⟩ = some (.slice da m dc) ∧ v5.cell? ⟨yd, 1, none⟩ = some (.int .i64 al) ∧ v5.cell? ⟨yd, 2, none⟩ = some (.int .i64 un) ∧ v5.cell? ⟨yd, 3, none⟩ = some (.int .i64 me) ∧ v5.cell? ⟨yd, 4, none⟩ = some (.int .i64 fi) ∧ v5.cell? ⟨yd, 5, none⟩ = some (.int .i64 lA)) := Lib.hid ⟨kcell hv kS4.out.1, kcell hv kS4.out.2.1, kcell hv kS4.out.2.2.1, kcell hv kS4.out.2.2.2.1, kcell hv kS4.out.2.2.2.2.1, kcell hv kS4.out.2.2.2.2.2.1, kcell hv kS4.out.2.2.2.2.2.2.1, kcell hv kS4.out.2.2.2.2.2.2.2⟩; have kB5 := Lib.hid (up2 kB4.out hv); clear hv) | (go_at_call 17; (with_reducible refine ((HR3.out.2 _ kD5.out).mono ?_)); rintro e v6 ⟨rfl, hv⟩; have kD6 := Lib.hid (kD5.out.up hv); have kS6 : Hid (v6.cell? ⟨bx, 1, none⟩ = some (.int .i64 B) ∧ v6.cell? ⟨b, 0, none⟩ = some (.pointer (some ⟨p, 0, none⟩)) ∧ v6.cell? ⟨yd, 0, none⟩ = some (.slice da m dc) ∧ v6.cell? ⟨yd, 1, none⟩ = some (.int .i64 al) ∧ v6.cell? ⟨yd, 2, none⟩ = some (.int .i64 un) ∧ v6.cell? ⟨yd, 3, none⟩ = some (.int .i64 me) ∧ v6.cell? ⟨yd, 4, none⟩ = some (.int .i64 fi) ∧ v6.cell? ⟨yd, 5, none⟩ = some (.int .i64 lA)) := Lib.hid ⟨kcell hv kS5.out.1, kcell hv kS5.out.2.1, kcell hv kS5.out.2.2.1, kcell hv kS5.out.2.2.2.1, kcell hv kS5.out.2.2.2.2.1, kcell hv kS5.out.2.2.2.2.2.1, kcell hv kS5.out.2.2.2.2.2.2.1, kcell hv kS5.out.2.2.2.2.2.2.2⟩; have kB6 := Lib.hid (up2 kB5.out hv); clear hv) | (go_at_call 18; (with_reducible refine ((HR4.out.1 _ kD6.out).mono ?_)); rintro e v7 ⟨rfl, hv⟩; have kD7 := Lib.hid (kD6.out.up hv); have kS7 : Hid (v7.cell? ⟨bx, 1, none⟩ = some (.int .i64 B) ∧ v7.cell? ⟨b, 0, none⟩ = some (.pointer (some ⟨p, 0, none⟩)) ∧ v7.cell? ⟨yd, 0, none⟩ = some (.slice da m dc) ∧ v7.cell? ⟨yd, 1, none⟩ = some (.int .i64 al) ∧ v7.cell? ⟨yd, 2, none⟩ = some (.int .i64 un) ∧ v7.cell? ⟨yd, 3, none⟩ = some (.int .i64 me) ∧ v7.cell? ⟨yd, 4, none⟩ = some (.int .i64 fi) ∧ v7.cell? ⟨yd, 5, none⟩ = some (.int .i64 lA)) := Lib.hid ⟨kcell hv kS6.out.1, kcell hv kS6.out.2.1, kcell hv kS6.out.2.2.1, kcell hv kS6.out.2.2.2.1, kcell hv kS6.out.2.2.2.2.1, kcell hv kS6.out.2.2.2.2.2.1, kcell hv kS6.out.2.2.2.2.2.2.1, kcell hv kS6.out.2.2.2.2.2.2.2⟩; have kB7 := Lib.hid (up2 kB6.out hv); clear hv) | (go_at_call 19; (with_reducible refine ((HR4.out.2 _ kD7.out).mono ?_)); rintro e v8 ⟨rfl, hv⟩; have kD8 := Lib.hid (kD7.out.up hv); have kS8 : Hid (v8.cell? ⟨bx, 1, none⟩ = some (.int .i64 B) ∧ v8.cell? ⟨b, 0, none⟩ = some (.pointer (some ⟨p, 0, none⟩)) ∧ v8.cell? ⟨yd, 0, none⟩ = some (.slice da m dc) ∧ v8.cell? ⟨yd, 1, none⟩ = some (.int .i64 al) ∧ v8.cell? ⟨yd, 2, none⟩ = some (.int .i64 un) ∧ v8.cell? ⟨yd, 3, none⟩ = some (.int .i64 me) ∧ v8.cell? ⟨yd, 4, none⟩ = some (.int .i64 fi) ∧ v8.cell? ⟨yd, 5, none⟩ = some (.int .i64 lA)) := Lib.hid ⟨kcell hv kS7.out.1, kcell hv kS7.out.2.1, kcell hv kS7.out.2.2.1, kcell hv kS7.out.2.2.2.1, kcell hv kS7.out.2.2.2.2.1, kcell hv kS7.out.2.2.2.2.2.1, kcell hv kS7.out.2.2.2.2.2.2.1, kcell hv kS7.out.2.2.2.2.2.2.2⟩; have kB8 := Lib.hid (up2 kB7.out hv); clear hv) | (go_at_call 20; (with_reducible refine ((HR5.out.1 _ kD8.out).mono ?_)); rintro e v9 ⟨rfl, hv⟩; have kD9 := Lib.hid (kD8.out.up hv); have kS9 : Hid (v9.cell? ⟨bx, 1, none⟩ = some (.int .i64 B) ∧ v9.cell? ⟨b, 0, none⟩ = some (.pointer (some ⟨p, 0, none⟩)) ∧ v9.cell? ⟨yd, 0, none⟩ = some (.slice da m dc) ∧ v9.cell? ⟨yd, 1, none⟩ = some (.int .i64 al) ∧ v9.cell? ⟨yd, 2, none⟩ = some (.int .i64 un) ∧ v9.cell? ⟨yd, 3, none⟩ = some (.int .i64 me) ∧ v9.cell? ⟨yd, 4, none⟩ = some (.int .i64 fi) ∧ v9.cell? ⟨yd, 5, none⟩ = some (.int .i64 lA)) := Lib.hid ⟨kcell hv kS8.out.1, kcell hv kS8.out.2.1, kcell hv kS8.out.2.2.1, kcell hv kS8.out.2.2.2.1, kcell hv kS8.out.2.2.2.2.1, kcell hv kS8.out.2.2.2.2.2.1, kcell hv kS8.out.2.2.2.2.2.2.1, kcell hv kS8.out.2.2.2.2.2.2.2⟩; have kB9 := Lib.hid (up2 kB8.out hv); clear hv) | (go_at_call 21; (with_reducible refine ((HR5.out.2 _ kD9.out).mono ?_)); rintro e v10 ⟨rfl, hv⟩; have kD10 := Lib.hid (kD9.out.up hv); have kS10 : Hid (v10.cell? ⟨bx, 1, none⟩ = some (.int .i64 B) ∧ v10.cell? ⟨b, 0, none⟩ = some (.pointer (some ⟨p, 0, none⟩)) ∧ v10.cell? ⟨yd, 0, none⟩ = some (.slice da m dc) ∧ v10.cell? ⟨yd, 1, none⟩ = some (.int .i64 al) ∧ v10.cell? ⟨yd, 2, none⟩ = some (.int .i64 un) ∧ v10.cell? ⟨yd, 3, none⟩ = some (.int .i64 me) ∧ v10.cell? ⟨yd, 4, none⟩ = some (.int .i64 fi) ∧ v10.cell? ⟨yd, 5, none⟩ = some (.int .i64 lA)) := Lib.hid ⟨kcell hv kS9.out.1, kcell hv kS9.out.2.1, kcell hv kS9.out.2.2.1, kcell hv kS9.out.2.2.2.1, kcell hv kS9.out.2.2.2.2.1, kcell hv kS9.out.2.2.2.2.2.1, kcell hv kS9.out.2.2.2.2.2.2.1, kcell hv kS9.out.2.2.2.2.2.2.2⟩; have kB10 := Lib.hid (up2 kB9.out hv); clear hv) | (go_at_call 23; (with_reducible refine (HDu.out _ kD10.out).mono ?_); rintro e v11 ⟨a', c', rfl, ho, hv⟩; have kS11 : Hid (v11.cell? ⟨bx, 1, none⟩ = some (.int .i64 B) ∧ v11.cell? ⟨b, 0, none⟩ = some (.pointer (some ⟨p, 0, none⟩)) ∧ v11.cell? ⟨yd, 0, none⟩ = some (.slice da m dc) ∧ v11.cell? ⟨yd, 1, none⟩ = some (.int .i64 al) ∧ v11.cell? ⟨yd, 2, none⟩ = some (.int .i64 un) ∧ v11.cell? ⟨yd, 3, none⟩ = some (.int .i64 me) ∧ v11.cell? ⟨yd, 4, none⟩ = some (.int .i64 fi) ∧ v11.cell? ⟨yd, 5, none⟩ = some (.int .i64 lA)) := Lib.hid ⟨kcell hv kS10.out.1, kcell hv kS10.out.2.1, kcell hv kS10.out.2.2.1, kcell hv kS10.out.2.2.2.1, kcell hv kS10.out.2.2.2.2.1, kcell hv kS10.out.2.2.2.2.2.1, kcell hv kS10.out.2.2.2.2.2.2.1, kcell hv kS10.out.2.2.2.2.2.2.2⟩; have kB11 := Lib.hid (up2 kB10.out hv); have kO11 := Lib.hid ((own_rws in_len ho HMm.out.symm).1); have kC11 := Lib.hid (HOn.out v11 a' c' kO11.out (up2 HBw.out kB11.out)); clear ho hv) | (go_at_call 22; (with_reducible refine (kC11.out).mono ?_); rintro e v12 ⟨rfl, hv⟩; have kS12 : Hid (v12.cell? ⟨bx, 1, none⟩ = some (.int .i64 B) ∧ v12.cell? ⟨b, 0, none⟩ = some (.pointer (some ⟨p, 0, none⟩)) ∧ v12.cell? ⟨yd, 0, none⟩ = some (.slice da m dc) ∧ v12.cell? ⟨yd, 1, none⟩ = some (.int .i64 al) ∧ v12.cell? ⟨yd, 2, none⟩ = some (.int .i64 un) ∧ v12.cell? ⟨yd, 3, none⟩ = some (.int .i64 me) ∧ v12.cell? ⟨yd, 4, none⟩ = some (.int .i64 fi) ∧ v12.cell? ⟨yd, 5, none⟩ = some (.int .i64 lA)) := Lib.hid ⟨kcell hv kS11.out.1, kcell hv kS11.out.2.1, kcell hv kS11.out.2.2.1, kcell hv kS11.out.2.2.2.1, kcell hv kS11.out.2.2.2.2.1, kcell hv kS11.out.2.2.2.2.2.1, kcell hv kS11.out.2.2.2.2.2.2.1, kcell hv kS11.out.2.2.2.2.2.2.2⟩; have kB12 := Lib.hid (up2 kB11.out hv); clear hv))
        all_goals
          go_wp2_with fail
          exact ⟨⟨i + 1, by omega, by go_num, _, _, HDb5.out.up kB12.out, HDy5.out.up kB12.out⟩, by simp [intOf]; omega⟩
      have hst : stT D E ⟨A, B, C⟩ = E := by unfold stT; rw [if_neg q0]
      have hsl : stL D E L ⟨A, B, C⟩ = L := by unfold stL; rw [if_neg q1, if_neg q2]
      have hse : stE D E L ⟨A, B, C⟩ = 0 := by unfold stE; rw [if_neg q0, if_neg q1, if_neg q2]
      rw [hst, hsl] at HS4
      rw [hse]
      have q0' : (A == 0) = false := by simpa using q0
      have q1' : (A == 1) = false := by simpa using q1
      have q2' : (A == 2) = false := by simpa using q2
      obtain ⟨w5, hw5⟩ : ∃ w5, w5 = w4 := ⟨_, rfl⟩
      obtain ⟨E1, hE1⟩ : ∃ E1, E1 = E := ⟨_, rfl⟩
      obtain ⟨L1, hL1⟩ : ∃ L1, L1 = L := ⟨_, rfl⟩
      rw [← hw5] at HS4 HX4 HY4 y0 y1 y2
      rw [← hE1, ← hL1] at HS4
      rw [← hw5]
      have HDb5 := HS4
      have HBx5 := HX4
      have HDy5 := HY4
      clear hst hsl hse q0 q1 q2 hw5 hE1 hL1
      obtain ⟨p, hDp⟩ := HDb5.out.read
      obtain ⟨z1, z2, z3, z5, bo, hr1, hr2, hr3, hr4, hr5⟩ := dp_reads D E1 L1 b p r k B day
      have HR1 := Lib.hid hr1
      have HR2 := Lib.hid hr2
      have HR3 := Lib.hid hr3
      have HR4 := Lib.hid hr4
      have HR5 := Lib.hid hr5
      have HDu := Lib.hid (fun (W : World) (h : Dp W b p r k D E1 L1) => HDuty.out W b p r k E1 L1 h (by omega))
      have kD0 : Hid (Dp w5.drew b p r k D E1 L1) := Lib.hid (hDp.up (Below.refl _ _).drew)
      have kB0 : Hid (Below w5.heap.size w5 w5.drew) := Lib.hid (Below.refl _ _).drew
      have HBw : Hid (Below w.heap.size w w5) := Lib.hid (up2 HB1.out HDb5.out.bel)
      have hx5 := HBx5.out
      have hy5 := HDy5.out
      have hp5 := hDp.cell
      have b1 := hx5.cell 1
      have y0 := hy5.cell 0
      have y1 := hy5.cell 1
      have y2 := hy5.cell 2
      have y3 := hy5.cell 3
      have y4 := hy5.cell 4
      have y5 := hy5.cell 5
      simp at b1 y0 y1 y2 y3 y4 y5
      have kS0 : Hid (w5.drew.cell? ⟨bx, 1, none⟩ = some (.int .i64 B) ∧ w5.drew.cell? ⟨b, 0, none⟩ = some (.pointer (some ⟨p, 0, none⟩)) ∧ w5.drew.cell? ⟨yd, 0, none⟩ = some (.slice da m dc) ∧ w5.drew.cell? ⟨yd, 1, none⟩ = some (.int .i64 al) ∧ w5.drew.cell? ⟨yd, 2, none⟩ = some (.int .i64 un) ∧ w5.drew.cell? ⟨yd, 3, none⟩ = some (.int .i64 me) ∧ w5.drew.cell? ⟨yd, 4, none⟩ = some (.int .i64 fi) ∧ w5.drew.cell? ⟨yd, 5, none⟩ = some (.int .i64 lA)) := Lib.hid ⟨b1, hp5, y0, y1, y2, y3, y4, y5⟩
      have HOn := Lib.hid (fun (W : World) (a : Option Addr) (c : Nat) (q1 : InA W a D.ls) (q2 : Below w.heap.size w W) => HOne.out W a c q1 q2 (by omega))
      clear hr1 hr2 hr3 hr4 hr5 hDp hx5 hy5 hp5 b1 y0 y1 y2 y3 y4 y5
      go_wp2_with fail
      go_region_held3 (fun w' => w'.cell? ⟨bx, 1, none⟩ = some (.int .i64 B) ∧ w'.cell? ⟨b, 0, none⟩ = some (.pointer (some ⟨p, 0, none⟩)) ∧ w'.cell? ⟨yd, 0, none⟩ = some (.slice da m dc) ∧ w'.cell? ⟨yd, 1, none⟩ = some (.int .i64 al) ∧ w'.cell? ⟨yd, 2, none⟩ = some (.int .i64 un) ∧ w'.cell? ⟨yd, 3, none⟩ = some (.int .i64 me) ∧ w'.cell? ⟨yd, 4, none⟩ = some (.int .i64 fi) ∧ w'.cell? ⟨yd, 5, none⟩ = some (.int .i64 lA))
        (first | (go_keep; done) | (with_reducible exact kS0.out) | (with_reducible exact kS1.out) | (with_reducible exact kS2.out) | (with_reducible exact kS3.out) | (with_reducible exact kS4.out) | (with_reducible exact kS5.out) | (with_reducible exact kS6.out) | (with_reducible exact kS7.out) | (with_reducible exact kS8.out) | (with_reducible exact kS9.out) | (with_reducible exact kS10.out) | (with_reducible exact kS11.out) | (with_reducible exact kS12.out))
        (first | (go_at_call 14; (with_reducible refine ((HR1.out.1 _ kD0.out).mono ?_)); rintro e v1 ⟨rfl, hv⟩; have kD1 := Lib.hid (kD0.out.up hv); have kS1 : Hid (v1.cell? ⟨bx, 1, none⟩ = some (.int .i64 B) ∧ v1.cell? ⟨b, 0, none⟩ = some (.pointer (some ⟨p, 0, none⟩)) ∧ v1.cell? ⟨yd, 0, none⟩ = some (.slice da m dc) ∧ v1.cell? ⟨yd, 1, none⟩ = some (.int .i64 al) ∧ v1.cell? ⟨yd, 2, none⟩ = some (.int .i64 un) ∧ v1.cell? ⟨yd, 3, none⟩ = some (.int .i64 me) ∧ v1.cell? ⟨yd, 4, none⟩ = some (.int .i64 fi) ∧ v1.cell? ⟨yd, 5, none⟩ = some (.int .i64 lA)) := Lib.hid ⟨kcell hv kS0.out.1, kcell hv kS0.out.2.1, kcell hv kS0.out.2.2.1, kcell hv kS0.out.2.2.2.1, kcell hv kS0.out.2.2.2.2.1, kcell hv kS0.out.2.2.2.2.2.1, kcell hv kS0.out.2.2.2.2.2.2.1, kcell hv kS0.out.2.2.2.2.2.2.2⟩; have kB1 := Lib.hid (up2 kB0.out hv); clear hv) | (go_at_call 15; (with_reducible refine ((HR1.out.2 _ kD1.out).mono ?_)); rintro e v2 ⟨rfl, hv⟩; have kD2 := Lib.hid (kD1.out.up hv); have kS2 : Hid (v2.cell? ⟨bx, 1, none⟩ = some (.int .i64 B) ∧ v2.cell? ⟨b, 0, none⟩ = some (.pointer (some ⟨p, 0, none⟩)) ∧ v2.cell? ⟨yd, 0, none⟩ = some (.slice da m dc) ∧ v2.cell? ⟨yd, 1, none⟩ = some (.int .i64 al) ∧ v2.cell? ⟨yd, 2, none⟩ = some (.int .i64 un) ∧ v2.cell? ⟨yd, 3, none⟩ = some (.int .i64 me) ∧ v2.cell? ⟨yd, 4, none⟩ = some (.int .i64 fi) ∧ v2.cell? ⟨yd, 5, none⟩ = some (.int .i64 lA)) := Lib.hid ⟨kcell hv kS1.out.1, kcell hv kS1.out.2.1, kcell hv kS1.out.2.2.1, kcell hv kS1.out.2.2.2.1, kcell hv kS1.out.2.2.2.2.1, kcell hv kS1.out.2.2.2.2.2.1, kcell hv kS1.out.2.2.2.2.2.2.1, kcell hv kS1.out.2.2.2.2.2.2.2⟩; have kB2 := Lib.hid (up2 kB1.out hv); clear hv) | (go_at_call 14; (with_reducible refine ((HR2.out.1 _ kD2.out).mono ?_)); rintro e v3 ⟨rfl, hv⟩; have kD3 := Lib.hid (kD2.out.up hv); have kS3 : Hid (v3.cell? ⟨bx, 1, none⟩ = some (.int .i64 B) ∧ v3.cell? ⟨b, 0, none⟩ = some (.pointer (some ⟨p, 0, none⟩)) ∧ v3.cell? ⟨yd, 0, none⟩ = some (.slice da m dc) ∧ v3.cell? ⟨yd, 1, none⟩ = some (.int .i64 al) ∧ v3.cell? ⟨yd, 2, none⟩ = some (.int .i64 un) ∧ v3.cell? ⟨yd, 3, none⟩ = some (.int .i64 me) ∧ v3.cell? ⟨yd, 4, none⟩ = some (.int .i64 fi) ∧ v3.cell? ⟨yd, 5, none⟩ = some (.int .i64 lA)) := Lib.hid ⟨kcell hv kS2.out.1, kcell hv kS2.out.2.1, kcell hv kS2.out.2.2.1, kcell hv kS2.out.2.2.2.1, kcell hv kS2.out.2.2.2.2.1, kcell hv kS2.out.2.2.2.2.2.1, kcell hv kS2.out.2.2.2.2.2.2.1, kcell hv kS2.out.2.2.2.2.2.2.2⟩; have kB3 := Lib.hid (up2 kB2.out hv); clear hv) | (go_at_call 15; (with_reducible refine ((HR2.out.2 _ kD3.out).mono ?_)); rintro e v4 ⟨rfl, hv⟩; have kD4 := Lib.hid (kD3.out.up hv); have kS4 : Hid (v4.cell? ⟨bx, 1, none⟩ = some (.int .i64 B) ∧ v4.cell? ⟨b, 0, none⟩ = some (.pointer (some ⟨p, 0, none⟩)) ∧ v4.cell? ⟨yd, 0, none⟩ = some (.slice da m dc) ∧ v4.cell? ⟨yd, 1, none⟩ = some (.int .i64 al) ∧ v4.cell? ⟨yd, 2, none⟩ = some (.int .i64 un) ∧ v4.cell? ⟨yd, 3, none⟩ = some (.int .i64 me) ∧ v4.cell? ⟨yd, 4, none⟩ = some (.int .i64 fi) ∧ v4.cell? ⟨yd, 5, none⟩ = some (.int .i64 lA)) := Lib.hid ⟨kcell hv kS3.out.1, kcell hv kS3.out.2.1, kcell hv kS3.out.2.2.1, kcell hv kS3.out.2.2.2.1, kcell hv kS3.out.2.2.2.2.1, kcell hv kS3.out.2.2.2.2.2.1, kcell hv kS3.out.2.2.2.2.2.2.1, kcell hv kS3.out.2.2.2.2.2.2.2⟩; have kB4 := Lib.hid (up2 kB3.out hv); clear hv) | (go_at_call 16; (with_reducible refine ((HR3.out.1 _ kD4.out).mono ?_)); rintro e v5 ⟨rfl, hv⟩; have kD5 := Lib.hid (kD4.out.up hv); have kS5 : Hid (v5.cell? ⟨bx, 1, none⟩ = some (.int .i64 B) ∧ v5.cell? ⟨b, 0, none⟩ = some (.pointer (some ⟨p, 0, none⟩)) ∧ v5.cell? ⟨yd, 0, none⟩ = some (.slice da m dc) ∧ v5.cell? ⟨yd, 1, none⟩ = some (.int .i64 al) ∧ v5.cell? ⟨yd, 2, none⟩ = some (.int .i64 un) ∧ v5.cell? ⟨yd, 3, none⟩ = some (.int .i64 me) ∧ v5.cell? ⟨yd, 4, none⟩ = some (.int .i64 fi) ∧ v5.cell? ⟨yd, 5, none⟩ = some (.int .i64 lA)) := Lib.hid ⟨kcell hv kS4.out.1, kcell hv kS4.out.2.1, kcell hv kS4.out.2.2.1, kcell hv kS4.out.2.2.2.1, kcell hv kS4.out.2.2.2.2.1, kcell hv kS4.out.2.2.2.2.2.1, kcell hv kS4.out.2.2.2.2.2.2.1, kcell hv kS4.out.2.2.2.2.2.2.2⟩; have kB5 := Lib.hid (up2 kB4.out hv); clear hv) | (go_at_call 17; (with_reducible refine ((HR3.out.2 _ kD5.out).mono ?_)); rintro e v6 ⟨rfl, hv⟩; have kD6 := Lib.hid (kD5.out.up hv); have kS6 : Hid (v6.cell? ⟨bx, 1, none⟩ = some (.int .i64 B) ∧ v6.cell? ⟨b, 0, none⟩ = some (.pointer (some ⟨p, 0, none⟩)) ∧ v6.cell? ⟨yd, 0, none⟩ = some (.slice da m dc) ∧ v6.cell? ⟨yd, 1, none⟩ = some (.int .i64 al) ∧ v6.cell? ⟨yd, 2, none⟩ = some (.int .i64 un) ∧ v6.cell? ⟨yd, 3, none⟩ = some (.int .i64 me) ∧ v6.cell? ⟨yd, 4, none⟩ = some (.int .i64 fi) ∧ v6.cell? ⟨yd, 5, none⟩ = some (.int .i64 lA)) := Lib.hid ⟨kcell hv kS5.out.1, kcell hv kS5.out.2.1, kcell hv kS5.out.2.2.1, kcell hv kS5.out.2.2.2.1, kcell hv kS5.out.2.2.2.2.1, kcell hv kS5.out.2.2.2.2.2.1, kcell hv kS5.out.2.2.2.2.2.2.1, kcell hv kS5.out.2.2.2.2.2.2.2⟩; have kB6 := Lib.hid (up2 kB5.out hv); clear hv) | (go_at_call 18; (with_reducible refine ((HR4.out.1 _ kD6.out).mono ?_)); rintro e v7 ⟨rfl, hv⟩; have kD7 := Lib.hid (kD6.out.up hv); have kS7 : Hid (v7.cell? ⟨bx, 1, none⟩ = some (.int .i64 B) ∧ v7.cell? ⟨b, 0, none⟩ = some (.pointer (some ⟨p, 0, none⟩)) ∧ v7.cell? ⟨yd, 0, none⟩ = some (.slice da m dc) ∧ v7.cell? ⟨yd, 1, none⟩ = some (.int .i64 al) ∧ v7.cell? ⟨yd, 2, none⟩ = some (.int .i64 un) ∧ v7.cell? ⟨yd, 3, none⟩ = some (.int .i64 me) ∧ v7.cell? ⟨yd, 4, none⟩ = some (.int .i64 fi) ∧ v7.cell? ⟨yd, 5, none⟩ = some (.int .i64 lA)) := Lib.hid ⟨kcell hv kS6.out.1, kcell hv kS6.out.2.1, kcell hv kS6.out.2.2.1, kcell hv kS6.out.2.2.2.1, kcell hv kS6.out.2.2.2.2.1, kcell hv kS6.out.2.2.2.2.2.1, kcell hv kS6.out.2.2.2.2.2.2.1, kcell hv kS6.out.2.2.2.2.2.2.2⟩; have kB7 := Lib.hid (up2 kB6.out hv); clear hv) | (go_at_call 19; (with_reducible refine ((HR4.out.2 _ kD7.out).mono ?_)); rintro e v8 ⟨rfl, hv⟩; have kD8 := Lib.hid (kD7.out.up hv); have kS8 : Hid (v8.cell? ⟨bx, 1, none⟩ = some (.int .i64 B) ∧ v8.cell? ⟨b, 0, none⟩ = some (.pointer (some ⟨p, 0, none⟩)) ∧ v8.cell? ⟨yd, 0, none⟩ = some (.slice da m dc) ∧ v8.cell? ⟨yd, 1, none⟩ = some (.int .i64 al) ∧ v8.cell? ⟨yd, 2, none⟩ = some (.int .i64 un) ∧ v8.cell? ⟨yd, 3, none⟩ = some (.int .i64 me) ∧ v8.cell? ⟨yd, 4, none⟩ = some (.int .i64 fi) ∧ v8.cell? ⟨yd, 5, none⟩ = some (.int .i64 lA)) := Lib.hid ⟨kcell hv kS7.out.1, kcell hv kS7.out.2.1, kcell hv kS7.out.2.2.1, kcell hv kS7.out.2.2.2.1, kcell hv kS7.out.2.2.2.2.1, kcell hv kS7.out.2.2.2.2.2.1, kcell hv kS7.out.2.2.2.2.2.2.1, kcell hv kS7.out.2.2.2.2.2.2.2⟩; have kB8 := Lib.hid (up2 kB7.out hv); clear hv) | (go_at_call 20; (with_reducible refine ((HR5.out.1 _ kD8.out).mono ?_)); rintro e v9 ⟨rfl, hv⟩; have kD9 := Lib.hid (kD8.out.up hv); have kS9 : Hid (v9.cell? ⟨bx, 1, none⟩ = some (.int .i64 B) ∧ v9.cell? ⟨b, 0, none⟩ = some (.pointer (some ⟨p, 0, none⟩)) ∧ v9.cell? ⟨yd, 0, none⟩ = some (.slice da m dc) ∧ v9.cell? ⟨yd, 1, none⟩ = some (.int .i64 al) ∧ v9.cell? ⟨yd, 2, none⟩ = some (.int .i64 un) ∧ v9.cell? ⟨yd, 3, none⟩ = some (.int .i64 me) ∧ v9.cell? ⟨yd, 4, none⟩ = some (.int .i64 fi) ∧ v9.cell? ⟨yd, 5, none⟩ = some (.int .i64 lA)) := Lib.hid ⟨kcell hv kS8.out.1, kcell hv kS8.out.2.1, kcell hv kS8.out.2.2.1, kcell hv kS8.out.2.2.2.1, kcell hv kS8.out.2.2.2.2.1, kcell hv kS8.out.2.2.2.2.2.1, kcell hv kS8.out.2.2.2.2.2.2.1, kcell hv kS8.out.2.2.2.2.2.2.2⟩; have kB9 := Lib.hid (up2 kB8.out hv); clear hv) | (go_at_call 21; (with_reducible refine ((HR5.out.2 _ kD9.out).mono ?_)); rintro e v10 ⟨rfl, hv⟩; have kD10 := Lib.hid (kD9.out.up hv); have kS10 : Hid (v10.cell? ⟨bx, 1, none⟩ = some (.int .i64 B) ∧ v10.cell? ⟨b, 0, none⟩ = some (.pointer (some ⟨p, 0, none⟩)) ∧ v10.cell? ⟨yd, 0, none⟩ = some (.slice da m dc) ∧ v10.cell? ⟨yd, 1, none⟩ = some (.int .i64 al) ∧ v10.cell? ⟨yd, 2, none⟩ = some (.int .i64 un) ∧ v10.cell? ⟨yd, 3, none⟩ = some (.int .i64 me) ∧ v10.cell? ⟨yd, 4, none⟩ = some (.int .i64 fi) ∧ v10.cell? ⟨yd, 5, none⟩ = some (.int .i64 lA)) := Lib.hid ⟨kcell hv kS9.out.1, kcell hv kS9.out.2.1, kcell hv kS9.out.2.2.1, kcell hv kS9.out.2.2.2.1, kcell hv kS9.out.2.2.2.2.1, kcell hv kS9.out.2.2.2.2.2.1, kcell hv kS9.out.2.2.2.2.2.2.1, kcell hv kS9.out.2.2.2.2.2.2.2⟩; have kB10 := Lib.hid (up2 kB9.out hv); clear hv) | (go_at_call 23; (with_reducible refine (HDu.out _ kD10.out).mono ?_); rintro e v11 ⟨a', c', rfl, ho, hv⟩; have kS11 : Hid (v11.cell? ⟨bx, 1, none⟩ = some (.int .i64 B) ∧ v11.cell? ⟨b, 0, none⟩ = some (.pointer (some ⟨p, 0, none⟩)) ∧ v11.cell? ⟨yd, 0, none⟩ = some (.slice da m dc) ∧ v11.cell? ⟨yd, 1, none⟩ = some (.int .i64 al) ∧ v11.cell? ⟨yd, 2, none⟩ = some (.int .i64 un) ∧ v11.cell? ⟨yd, 3, none⟩ = some (.int .i64 me) ∧ v11.cell? ⟨yd, 4, none⟩ = some (.int .i64 fi) ∧ v11.cell? ⟨yd, 5, none⟩ = some (.int .i64 lA)) := Lib.hid ⟨kcell hv kS10.out.1, kcell hv kS10.out.2.1, kcell hv kS10.out.2.2.1, kcell hv kS10.out.2.2.2.1, kcell hv kS10.out.2.2.2.2.1, kcell hv kS10.out.2.2.2.2.2.1, kcell hv kS10.out.2.2.2.2.2.2.1, kcell hv kS10.out.2.2.2.2.2.2.2⟩; have kB11 := Lib.hid (up2 kB10.out hv); have kO11 := Lib.hid ((own_rws in_len ho HMm.out.symm).1); have kC11 := Lib.hid (HOn.out v11 a' c' kO11.out (up2 HBw.out kB11.out)); clear ho hv) | (go_at_call 22; (with_reducible refine (kC11.out).mono ?_); rintro e v12 ⟨rfl, hv⟩; have kS12 : Hid (v12.cell? ⟨bx, 1, none⟩ = some (.int .i64 B) ∧ v12.cell? ⟨b, 0, none⟩ = some (.pointer (some ⟨p, 0, none⟩)) ∧ v12.cell? ⟨yd, 0, none⟩ = some (.slice da m dc) ∧ v12.cell? ⟨yd, 1, none⟩ = some (.int .i64 al) ∧ v12.cell? ⟨yd, 2, none⟩ = some (.int .i64 un) ∧ v12.cell? ⟨yd, 3, none⟩ = some (.int .i64 me) ∧ v12.cell? ⟨yd, 4, none⟩ = some (.int .i64 fi) ∧ v12.cell? ⟨yd, 5, none⟩ = some (.int .i64 lA)) := Lib.hid ⟨kcell hv kS11.out.1, kcell hv kS11.out.2.1, kcell hv kS11.out.2.2.1, kcell hv kS11.out.2.2.2.1, kcell hv kS11.out.2.2.2.2.1, kcell hv kS11.out.2.2.2.2.2.1, kcell hv kS11.out.2.2.2.2.2.2.1, kcell hv kS11.out.2.2.2.2.2.2.2⟩; have kB12 := Lib.hid (up2 kB11.out hv); clear hv))
      all_goals
        go_wp2_with fail
        exact ⟨⟨i + 1, by omega, by go_num, _, _, HDb5.out.up kB12.out, HDy5.out.up kB12.out⟩, by simp [intOf]; omega⟩
    · obtain rfl : i = n := by omega
      clear hlt
      go_wp2_with fail
      go_ret
      exact ⟨rfl, HBr.out⟩
end Go.Proofs.Ytobdcogaphkogaa
