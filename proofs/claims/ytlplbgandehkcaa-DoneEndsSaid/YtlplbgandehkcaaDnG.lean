/- DoneRises, DoneEnds: their cores. -/
import Derived.Test.YtlplbgandehkcaaDnF
namespace Go.Proofs.Ytlplbgandehkcaa
open Go.RowKit

/-- all that is told of a list, in order -/
def tells (m : Int) (l : List Tl) (E : List Tl) : List Tl := l.foldl (fun E x => telS m E x.1 x.2) E
theorem tells_step {m : Int} {l E : List Tl} {k : Nat} {x : Tl} (h : l[k]? = some x) : tells m (l.take (k + 1)) E = telS m (tells m (l.take k) E) x.1 x.2 := by
  unfold tells
  rw [List.take_add_one, h]
  simp
theorem FineT.all {d : Dt} (l : List Tl) {E : List Tl} (h : FineT d E) : FineT d (tells d.me l E) := by
  induction l generalizing E with
  | nil => exact h
  | cons x l ih => exact ih (h.tel _ _)
def AmT (l : List Tl) : Prop := ∀ x ∈ l, Am x.1 ∧ Am x.2
theorem thr_ahead {d : Dt} (hd : dtB d = true) (q : d.me ≤ 1) : thrV d [] (d.fi - 1) = 0 := by
  have := dtB_iff.1 hd
  unfold thrV; (repeat' split) <;> omega
theorem thr_end {d : Dt} (hd : dtB d = true) (q : d.me ≤ 1) : thrV d [] d.la = thrW d := by
  have := dtB_iff.1 hd
  unfold thrV thrW; (repeat' split) <;> omega
theorem thr_next {d : Dt} {day : Int} (hd : dtB d = true) (q : d.me = 0) (q1 : d.fi ≤ day ∧ day ≤ d.la) : thrV d [] day = thrV d [] (day - 1) + 1 := by
  have := dtB_iff.1 hd
  unfold thrV; (repeat' split) <;> omega
set_option maxRecDepth 100000 in
set_option maxHeartbeats 8000000 in
theorem rises_law (d : Dt) (da : Option Addr) (dc : Nat) (a1 : Option Addr) (c1 : Nat) (l : List Tl) (x : Tl) (ea la : Int) (w : World) (hI : InA w da d.ls) (hda : da = none → dc = 0) (hR : TlA w a1 l) (hAm : AmT l) (hx : Am x.1 ∧ Am x.2) :
    Calls Try.prog 4 #[d.val da dc, .slice a1 l.length c1, .agg #[.int .i64 x.1, .int .i64 x.2], .int .i64 ea, .int .i64 la] w fun e w' => e = .returned (.bool true) ∧ Below w.heap.size w w' := by
  have HAw := Lib.hid (fun (W : World) => awake_any14 W)
  have HF := Lib.hid (fun (q : dtB d = true) (l : List Tl) => (FineT.nil q).all l)
  have HNo := Lib.hid (fun (W : World) (q : dtB d = false) => tnew_no (w := W) (d := d) (a := da) (c := dc) q)
  have HNew := Lib.hid (fun (W : World) (q : dtB d = true) (q2 : d.ls.length ≤ 17592186044416) (q3 : Below w.heap.size w W) => tnew_yes (w := W) (d := d) (a := da) (c := dc) q q2 (hI.up q3) hda)
  have HTell := Lib.hid (fun (w0 W : World) (p : Nat) (E : List Tl) (h : Tg w0 W p d E) (a b : Int) (q : Am b) => tell_any h a b q)
  have HThr := Lib.hid (fun (w0 W : World) (p : Nat) (E : List Tl) (h : Tg w0 W p d E) (a : Int) => h.thr a)
  have HUp := Lib.hid (fun (w0 W W' : World) (p : Nat) (E : List Tl) (h : Tg w0 W p d E) (q : Below W.heap.size W W') => h.up q)
  have HR := Lib.hid hR
  have HAm := Lib.hid hAm
  obtain ⟨n, hn⟩ : ∃ n, n = l.length := ⟨_, rfl⟩
  have HN := Lib.hid hn
  obtain ⟨D, hD⟩ : ∃ D, D = d := ⟨_, rfl⟩
  rw [← hD] at HNo HNew HTell HThr HUp HF
  have HD := Lib.hid hD
  have HX2 := Lib.hid hx
  obtain ⟨X, Y⟩ := x
  unfold Dt.val at HNo HNew ⊢
  rw [← hD, ← hn]
  unfold ThrR at HThr
  unfold TelR at HTell
  simp only at HX2 ⊢
  obtain ⟨m, hm⟩ : ∃ m, m = D.ls.length := ⟨_, rfl⟩
  rw [← hm] at HNo HNew ⊢
  obtain ⟨al, hal⟩ : ∃ al, al = D.al := ⟨_, rfl⟩
  obtain ⟨un, hun⟩ : ∃ un, un = D.un := ⟨_, rfl⟩
  obtain ⟨me, hme⟩ : ∃ me, me = D.me := ⟨_, rfl⟩
  obtain ⟨fi, hfi⟩ : ∃ fi, fi = D.fi := ⟨_, rfl⟩
  obtain ⟨lA, hlA⟩ : ∃ lA, lA = D.la := ⟨_, rfl⟩
  rw [← hal, ← hun, ← hme, ← hfi, ← hlA] at HNo HNew ⊢
  rw [← hme] at HTell
  have HMe := Lib.hid hme
  clear hI hda hR hAm hx hn hD hal hun hme hfi hlA hm
  go_enter Try.func4, Try.ntmps4
  go_wp2_with fail
  have hx := (Has.fresh w 24 #[.slice da m dc, .int .i64 al, .int .i64 un, .int .i64 me, .int .i64 fi, .int .i64 lA]).up (boxed _ (.cells #[.int .i64 X, .int .i64 Y] 35))
  have hy := Has.fresh (w.alloc (.cells #[.slice da m dc, .int .i64 al, .int .i64 un, .int .i64 me, .int .i64 fi, .int .i64 lA] 24)) 35 #[.int .i64 X, .int .i64 Y]
  rw [show (w.alloc (.cells #[.slice da m dc, .int .i64 al, .int .i64 un, .int .i64 me, .int .i64 fi, .int .i64 lA] 24)).heap.size = w.heap.size + 1 by simp] at hy
  have HXB := Lib.hid hx
  have HYB := Lib.hid hy
  clear hx hy
  refine (HAw.out _).mono ?_
  rintro e w1 ⟨rfl, hb⟩
  have hx := HXB.out.up hb
  have x0 := hx.cell 0
  have x1 := hx.cell 1
  have x2 := hx.cell 2
  have x3 := hx.cell 3
  have x4 := hx.cell 4
  have x5 := hx.cell 5
  simp at x0 x1 x2 x3 x4 x5
  have HB1 := Lib.hid (up2 (up2 (boxed _ _) (boxed _ _)) hb)
  have HY1 := Lib.hid (HYB.out.up hb)
  clear hb hx
  by_cases g1 : 220 < n
  · have g1' : (220 : Int) < (n : Int) := by omega
    clear g1
    go_wp2_with fail
    go_ret
    exact ⟨rfl, HB1.out⟩
  by_cases g2 : 20 < m
  · have g1' : ¬ (220 : Int) < (n : Int) := by omega
    have g2' : (20 : Int) < (m : Int) := by omega
    clear g1 g2
    go_wp2_with fail
    go_ret
    exact ⟨rfl, HB1.out⟩
  by_cases g3 : la < ea
  · have g1' : ¬ (220 : Int) < (n : Int) := by omega
    have g2' : ¬ (20 : Int) < (m : Int) := by omega
    clear g1 g2
    go_wp2_with fail
    go_ret
    exact ⟨rfl, HB1.out⟩
  have g1' : ¬ (220 : Int) < (n : Int) := by omega
  have g2' : ¬ (20 : Int) < (m : Int) := by omega
  cases hd : dtB D with
  | false =>
    have HN0 := Lib.hid (HNo.out w1 hd)
    clear g1 g2 hd
    go_wp2_with fail
    refine HN0.out.mono ?_
    rintro e w2 ⟨rfl, hb⟩
    have HB2 := Lib.hid (up2 HB1.out hb)
    clear hb x0 x1 x2 x3 x4 x5
    go_wp2_with fail
    go_ret
    exact ⟨rfl, HB2.out⟩
  | true =>
    have HN1 := Lib.hid (HNew.out w1 hd (by omega) HB1.out)
    have HF1 := Lib.hid (HF.out hd)
    have G3 := Lib.hid g3
    have hn2 : n ≤ 220 := by omega
    clear g1 g2 hd
    go_wp2_with fail
    refine HN1.out.mono ?_
    rintro e w2 ⟨p, rfl, hs, hp⟩
    have HB2 := Lib.hid (up2 HB1.out (hs.bel hp))
    have HP := Lib.hid hp
    have HY2 := Lib.hid (HY1.out.up (hs.bel hp))
    have HS := Lib.hid hs
    clear hs hp x0 x1 x2 x3 x4 x5 g1' g2' g3
    go_wp2_with fail
    go_loopw [46] (fun i wr => ∃ k : Nat, k ≤ n ∧ i = .int .i64 (k : Int) ∧ Tg w1 wr p D (tells D.me (l.take k) [])) (fun i _ => n - (intOf i).toNat)
    case atStart => exact ⟨0, Nat.zero_le _, rfl, HS.out⟩
    case round =>
      obtain ⟨k, hk, rfl, hT⟩ := hrel
      have HT := Lib.hid hT
      have HBr := Lib.hid (hT.bel HP.out)
      clear hT
      by_cases hlt : k < n
      · obtain ⟨y, hy⟩ : ∃ y, l[k]? = some y := ⟨l[k]'(by rw [← HN.out]; exact hlt), List.getElem?_eq_getElem _⟩
        obtain ⟨b, o, rfl, c0, c1⟩ := tl_at (HR.out.up (up2 HB1.out HBr.out)) hy
        have hay := (HAm.out y (List.mem_of_getElem? hy)).2
        have HSt := Lib.hid (tells_step (m := D.me) (E := []) hy)
        have e1 : IntKind.i64.wrap ((k : Int) + 1) = (k : Int) + 1 := IntWalk.i64_in _ (by omega)
        obtain ⟨A, C⟩ := y
        simp only at c0 c1 hay
        have HTl := Lib.hid (fun (W : World) (q : Below wr.heap.size wr W) => HTell.out _ _ _ _ (HT.out.up q) A C hay)
        clear hy hay
        go_wp2_with fail
        refine (HTl.out _ (boxed _ _)).mono ?_
        rintro e w3 ⟨rfl, hs⟩
        have HS3 := Lib.hid hs
        clear hs c0 c1
        go_wp2_with fail
        exact ⟨⟨k + 1, by omega, by go_num, by have z := HS3.out; rw [HMe.out] at z; rw [HSt.out]; exact z⟩, by simp [intOf]; omega⟩
      · obtain rfl : k = n := by omega
        obtain ⟨E, hE⟩ : ∃ E, E = tells D.me l [] := ⟨_, rfl⟩
        have HTE : Hid (Tg w1 wr p D E) := by
          have := HT.out
          rw [HN.out, List.take_length, ← hE] at this
          exact Lib.hid this
        have hF : FineT D E := by rw [hE]; exact HF1.out l
        have i1 := (thr_in hF ea).1
        have i2 := thr_mono hF (show ea ≤ la by have := G3.out; omega)
        have i3 := (thr_in hF la).2.1
        have i4 := (thr_in hF la).2.2
        have i5 := thr_tel D E X Y la
        have i6 := (thr_in (hF.tel X Y) la).2.1
        rw [← HMe.out] at i5 i6
        have HY3 := Lib.hid (HY1.out.up HBr.out)
        clear hlt hE hF
        have I1 := Lib.hid i1
        have I2 := Lib.hid i2
        have I3 := Lib.hid i3
        have I4 := Lib.hid i4
        have I5 := Lib.hid i5
        have I6 := Lib.hid i6
        clear i1 i2 i3 i4 i5 i6
        go_wp2_with fail
        refine (HThr.out _ _ _ _ HTE.out ea).mono ?_
        rintro e w3 ⟨rfl, hb⟩
        have HT3 := Lib.hid (HTE.out.up hb)
        clear hb
        go_wp2_with fail
        refine (HThr.out _ _ _ _ HT3.out la).mono ?_
        rintro e w4 ⟨rfl, hb⟩
        have HT4 := Lib.hid (HT3.out.up hb)
        clear hb
        have hy := HY1.out.up (HT4.out.bel HP.out)
        have y0 := hy.cell 0
        have y1 := hy.cell 1
        simp at y0 y1
        clear hy
        go_wp2_with fail
        refine (HTell.out _ _ _ _ HT4.out X Y HX2.out.2).mono ?_
        rintro e w5 ⟨rfl, hs⟩
        have HT5 := Lib.hid hs
        clear hs y0 y1
        go_wp2_with fail
        refine (HThr.out _ _ _ _ HT5.out la).mono ?_
        rintro e w6 ⟨rfl, hb⟩
        have HT6 := Lib.hid (HT5.out.up hb)
        clear hb
        have i1 := I1.out
        have i2 := I2.out
        have i3 := I3.out
        have i4 := I4.out
        have i5 := I5.out
        have i6 := I6.out
        go_wp2_with fail
        go_ret
        exact ⟨by simp, up2 HB1.out (HT6.out.bel HP.out)⟩
set_option maxRecDepth 100000 in
set_option maxHeartbeats 8000000 in
theorem ends_law (d : Dt) (da : Option Addr) (dc : Nat) (day : Int) (w : World) (hI : InA w da d.ls) (hda : da = none → dc = 0) (hl : d.ls.length ≤ 17592186044416) :
    Calls Try.prog 6 #[d.val da dc, .int .i64 day] w fun e w' => e = .returned (.bool true) ∧ Below w.heap.size w w' := by
  have HAw := Lib.hid (fun (W : World) => awake_any14 W)
  cases hd : dtB d with
  | false =>
    have HN := Lib.hid (fun (W : World) => tnew_no (w := W) (d := d) (a := da) (c := dc) hd)
    unfold Dt.val at HN ⊢
    generalize d.ls.length = n at HN ⊢
    clear hI hda hl hd
    go_enter Try.func6, Try.ntmps6
    go_wp2_with fail
    have HX := Lib.hid (Has.fresh w 24 #[.slice da n dc, .int .i64 d.al, .int .i64 d.un, .int .i64 d.me, .int .i64 d.fi, .int .i64 d.la])
    refine (HAw.out _).mono ?_
    rintro e w1 ⟨rfl, hb⟩
    have hx := HX.out.up hb
    have x0 := hx.cell 0
    have x1 := hx.cell 1
    have x2 := hx.cell 2
    have x3 := hx.cell 3
    have x4 := hx.cell 4
    have x5 := hx.cell 5
    simp at x0 x1 x2 x3 x4 x5
    have HB := Lib.hid (up2 (boxed _ _) hb)
    clear hb hx
    go_wp2_with fail
    refine (HN.out _).mono ?_
    rintro e w2 ⟨rfl, hb⟩
    have HB2 := Lib.hid (up2 HB.out hb)
    clear hb x0 x1 x2 x3 x4 x5
    go_wp2_with fail
    go_ret
    exact ⟨rfl, HB2.out⟩
  | true =>
    have hm := dtB_iff.1 hd
    have HNew := Lib.hid (fun (W : World) (q : Below w.heap.size w W) => tnew_yes (w := W) (d := d) (a := da) (c := dc) hd hl (hI.up q) hda)
    have hv0 := thr_ahead hd
    have hv1 := thr_end hd
    have hv2 := fun q1 q2 => thr_next hd (day := day) q1 q2
    have hin := fun q => thr_in (FineT.nil hd) q
    have HV0 := Lib.hid hv0
    have HV1 := Lib.hid hv1
    have HV2 := Lib.hid hv2
    have HIn := Lib.hid hin
    have hin := fun q => (thr_in (FineT.nil hd) q).1
    have hin2 := fun q => (thr_in (FineT.nil hd) q).2.1
    have hW : thrW d ≤ 9223372036854775807 ∨ 1 < d.me := by
      by_cases q : 1 < d.me
      · exact .inr q
      · left; unfold thrW; (repeat' split) <;> omega
    have HTh := Lib.hid (fun (w0 W : World) (p : Nat) (h : Tg w0 W p d []) (q : Int) => h.thr q)
    have HUp := Lib.hid (fun (w0 W W' : World) (p : Nat) (h : Tg w0 W p d []) (q : Below W.heap.size W W') => h.up q)
    have HM := Lib.hid hm
    have HV0 := Lib.hid hv0
    have HV1 := Lib.hid hv1
    have HV2 := Lib.hid hv2
    have HW := Lib.hid hW
    have HIn := Lib.hid hin
    have HIn2 := Lib.hid hin2
    obtain ⟨ls, al, un, me, fi, la⟩ := d
    unfold Dt.val at HNew ⊢
    simp only at HNew hm HV0 HV1 HV2 HW HM hl ⊢
    unfold ThrR at HTh
    generalize hD : (⟨ls, al, un, me, fi, la⟩ : Dt) = D at HNew HTh HUp HV0 HV1 HV2 HIn HIn2 HW
    generalize ls.length = n at HNew hl ⊢
    have e1 : IntKind.i64.wrap (fi - 1) = fi - 1 := IntWalk.i64_in _ (by omega)
    clear hI hda hl hd hv0 hv1 hv2 hin hin2 hD hW
    go_enter Try.func6, Try.ntmps6
    go_wp2_with fail
    have HX := Lib.hid (Has.fresh w 24 #[.slice da n dc, .int .i64 al, .int .i64 un, .int .i64 me, .int .i64 fi, .int .i64 la])
    refine (HAw.out _).mono ?_
    rintro e w1 ⟨rfl, hb⟩
    have hx := HX.out.up hb
    have x0 := hx.cell 0
    have x1 := hx.cell 1
    have x2 := hx.cell 2
    have x3 := hx.cell 3
    have x4 := hx.cell 4
    have x5 := hx.cell 5
    simp at x0 x1 x2 x3 x4 x5
    have HB := Lib.hid (up2 (boxed _ _) hb)
    have HX1 := Lib.hid hx
    clear hb hx
    go_wp2_with fail
    refine (HNew.out _ HB.out).mono ?_
    rintro e w2 ⟨p, rfl, hs, hp⟩
    have hb := hs.bel hp
    have hx := HX1.out.up hb
    have x3 := hx.cell 3
    have x4 := hx.cell 4
    have x5 := hx.cell 5
    simp at x3 x4 x5
    have HB2 := Lib.hid (up2 HB.out hb)
    have HX2 := Lib.hid hx
    have HS := Lib.hid hs
    clear hb hx x0 x1 x2 hs hp
    by_cases qm : 1 < me
    · clear x4 x5 hm
      go_wp2_with fail
      go_ret
      exact ⟨rfl, HB2.out⟩
    · go_wp2_with fail
      refine (HTh.out _ _ _ HS.out (fi - 1)).mono ?_
      rintro e w3 ⟨rfl, hb⟩
      rw [HV0.out (by omega)]
      have hx := HX2.out.up hb
      have x3 := hx.cell 3
      have x4 := hx.cell 4
      have x5 := hx.cell 5
      simp at x3 x4 x5
      have HB3 := Lib.hid (up2 HB2.out hb)
      have HX3 := Lib.hid hx
      have HS3 := Lib.hid (HUp.out _ _ _ _ HS.out hb)
      clear hb hx
      go_wp2_with fail
      refine (HTh.out _ _ _ HS3.out la).mono ?_
      rintro e w4 ⟨rfl, hb⟩
      rw [HV1.out (by omega)]
      generalize thrW D = W4 at HW HIn2
      have hx := HX3.out.up hb
      have x3 := hx.cell 3
      have x4 := hx.cell 4
      have x5 := hx.cell 5
      simp at x3 x4 x5
      have HB4 := Lib.hid (up2 HB3.out hb)
      have HS4 := Lib.hid (HUp.out _ _ _ _ HS3.out hb)
      clear hb hx
      by_cases q1 : me = 1
      · have hq : (me == 1) = true := by simpa using q1
        clear x4 x5 hm q1 qm e1
        go_wp2_with fail
        go_ret
        exact ⟨rfl, HB4.out⟩
      · have hq : (me == 1) = false := by simpa using q1
        by_cases q2 : day < fi
        · clear x5 hm q1 qm e1
          go_wp2_with fail
          go_ret
          exact ⟨rfl, HB4.out⟩
        · by_cases q3 : la < day
          · clear hm q1 qm e1
            go_wp2_with fail
            go_ret
            exact ⟨rfl, HB4.out⟩
          · have hn := HV2.out (by omega) ⟨by omega, by omega⟩
            have h0 := HIn.out (day - 1)
            have h1 := HIn2.out day
            have hw : W4 ≤ 9223372036854775807 := by
              rcases HW.out with h | h
              · exact h
              · omega
            rw [hn] at h1
            have e2 : IntKind.i64.wrap (day - 1) = day - 1 := IntWalk.i64_in _ (by omega)
            have HN := Lib.hid hn
            clear hn q1 e1
            go_wp2_with fail
            refine (HTh.out _ _ _ HS4.out (day - 1)).mono ?_
            rintro e w5 ⟨rfl, hb⟩
            have HB5 := Lib.hid (up2 HB4.out hb)
            have HS5 := Lib.hid (HUp.out _ _ _ _ HS4.out hb)
            clear hb
            go_wp2_with fail
            refine (HTh.out _ _ _ HS5.out day).mono ?_
            rintro e w6 ⟨rfl, hb⟩
            have HB6 := Lib.hid (up2 HB5.out hb)
            rw [HN.out]
            generalize thrV D [] (day - 1) = v at h0 h1
            have e3 : IntKind.i64.wrap (v + 1) = v + 1 := IntWalk.i64_in _ (by omega)
            clear hb
            go_wp2_with fail
            go_ret
            exact ⟨by simp, HB6.out⟩
end Go.Proofs.Ytlplbgandehkcaa
