/- DoneTells: its core. -/
import Derived.Test.YtlplbgandehkcaaDqC
import Derived.Test.YtlplbgandehkcaaDqD
import Derived.Test.YtlplbgandehkcaaDnI
namespace Go.Proofs.Ytlplbgandehkcaa
open Go.RowKit

section
variable {w0 w w' : World} {p r : Nat} {d d2 : Dt} {E E2 : List Tl}
theorem Qg.log (h : Qg w r d E) : ∃ cs, Has w r 42 cs := by obtain ⟨la, lc, tv, h⟩ := h; exact ⟨_, h.has⟩
theorem Qg.oth (h : Qg w r d E) (hO : Oth w w') : Qg w' r d E := by
  obtain ⟨la, lc, tv, h⟩ := h
  exact ⟨la, lc, tv, hO _ _ _ h.has (by decide) (by decide), hO.own h.own (by decide) (by decide), h.fine⟩
theorem Qg.many (h : Qg w r d E) : ∃ a c, w.cell? ⟨r, 6, none⟩ = some (.slice a E.length c) := by
  obtain ⟨la, lc, tv, h⟩ := h
  obtain ⟨a, c, rfl, _⟩ := h.row
  exact ⟨a, c, by have := h.has.cell 6; simpa using this⟩
/-- what turns in the reference's log alone leaves the program's -/
theorem Tg.byq (h : Tg w0 w p d E) {cs : Array Value} (hq : Has w r 42 cs) (hr : w0.heap.size ≤ r) (q : w.grownBy w' (some r)) : Tg w0 w' p d E := by
  obtain ⟨⟨la, lc, tv, hx⟩, hk⟩ := h
  refine ⟨⟨la, lc, tv, hx.off q (fun e => hx.has.ne hq (by decide) (by injection e)) (.inr (own_ne hx.lns hq (by decide))) (.inr (own_ne hx.own hq (by decide)))⟩, ⟨q.os.trans hk.os, q.tape.trans hk.tape, q.output.trans hk.output, Nat.le_trans hk.size q.size, fun k hk1 hne => ?_⟩⟩
  rw [← hk.block k hk1 hne]
  exact q.block k (Nat.lt_of_lt_of_le hk1 hk.size) (fun e => by injection e with e; omega)
end
set_option maxRecDepth 100000 in
set_option maxHeartbeats 32000000 in
theorem tells_law14 (d : Dt) (da : Option Addr) (dc : Nat) (a1 : Option Addr) (c1 : Nat) (l : List Tl) (day : Int) (w : World) (hI : InA w da d.ls) (hda : da = none → dc = 0) (hR : TlA w a1 l) (hAm : AmT l) :
    Calls Try.prog 3 #[d.val da dc, .slice a1 l.length c1, .int .i64 day] w fun e w' => e = .returned (.bool true) ∧ Below w.heap.size w w' := by
  have HAw := Lib.hid (fun (W : World) => awake_any14 W)
  have HI := Lib.hid hI
  have HNo := Lib.hid (fun (W : World) (q : dtB d = false) => tnew_no (w := W) (d := d) (a := da) (c := dc) q)
  have HQNo := Lib.hid (fun (W : World) (q : dtB d = false) => qnew_no (w := W) (d := d) (a := da) (c := dc) q)
  have HNew := Lib.hid (fun (W : World) (q : dtB d = true) (q2 : d.ls.length ≤ 17592186044416) (q3 : Below w.heap.size w W) => tnew_yes (w := W) (d := d) (a := da) (c := dc) q q2 (hI.up q3) hda)
  have HQNew := Lib.hid (fun (W : World) (q : dtB d = true) => qnew_yes14 (w := W) (d := d) (a := da) (c := dc) q)
  have HTell := Lib.hid (fun (w0 W : World) (p : Nat) (E : List Tl) (h : Tg w0 W p d E) (a b : Int) (q : Am b) => tell_oth h a b q)
  have HQTell := Lib.hid (fun (W : World) (r : Nat) (E : List Tl) (h : Qg W r d E) (a b : Int) (q : Am b) => qtell_any14 h a b q)
  have HThr := Lib.hid (fun (w0 W : World) (p : Nat) (E : List Tl) (h : Tg w0 W p d E) (a : Int) => h.thr a)
  have HQThr := Lib.hid (fun (W : World) (r : Nat) (E : List Tl) (h : Qg W r d E) (a : Int) => qthr_any h a)
  have HMany := Lib.hid (fun (w0 W : World) (p : Nat) (E : List Tl) (h : Tg w0 W p d E) => h.many)
  have HDuty := Lib.hid (fun (w0 W : World) (p : Nat) (E : List Tl) (h : Tg w0 W p d E) (q : d.ls.length ≤ 17592186044416) => h.duty q)
  have HOne := Lib.hid (fun (W : World) (a : Option Addr) (c : Nat) (q1 : InA W a d.ls) (q2 : Below w.heap.size w W) (q3 : d.ls.length ≤ 1000) => one_copy d a da c dc W q1 (hI.up q2) q3)
  have HR := Lib.hid hR
  have HAm := Lib.hid hAm
  obtain ⟨n, hn⟩ : ∃ n, n = l.length := ⟨_, rfl⟩
  have HN := Lib.hid hn
  obtain ⟨D, hD⟩ : ∃ D, D = d := ⟨_, rfl⟩
  rw [← hD] at HNo HNew HTell HThr HMany HQNo HQNew HQTell HQThr HDuty HOne
  unfold Dt.val at HNo HNew HQNo HQNew HOne ⊢
  rw [← hD, ← hn]
  unfold ThrR at HThr HQThr
  unfold TelO TelR at HTell
  unfold TelQ at HQTell
  unfold CopR14 Dt.val at HDuty
  obtain ⟨m, hm⟩ : ∃ m, m = D.ls.length := ⟨_, rfl⟩
  rw [← hm] at HNo HNew HQNo HQNew HDuty HOne ⊢
  obtain ⟨al, hal⟩ : ∃ al, al = D.al := ⟨_, rfl⟩
  obtain ⟨un, hun⟩ : ∃ un, un = D.un := ⟨_, rfl⟩
  obtain ⟨me, hme⟩ : ∃ me, me = D.me := ⟨_, rfl⟩
  obtain ⟨fi, hfi⟩ : ∃ fi, fi = D.fi := ⟨_, rfl⟩
  obtain ⟨lA, hlA⟩ : ∃ lA, lA = D.la := ⟨_, rfl⟩
  rw [← hal, ← hun, ← hme, ← hfi, ← hlA] at HNo HNew HQNo HQNew HDuty HOne ⊢
  have HMm := Lib.hid hm
  clear HI hI hda hR hAm hn hD hal hun hme hfi hlA hm d
  go_enter Try.func3, Try.ntmps3
  go_wp2_with fail
  have HXB := Lib.hid (Has.fresh w 24 #[.slice da m dc, .int .i64 al, .int .i64 un, .int .i64 me, .int .i64 fi, .int .i64 lA])
  refine (HAw.out _).mono ?_
  rintro e w1 ⟨rfl, hb⟩
  have hx := HXB.out.up hb
  have x0 := hx.cell 0
  have x1 := hx.cell 1
  have x2 := hx.cell 2
  have x3 := hx.cell 3
  have x4 := hx.cell 4
  have x5 := hx.cell 5
  simp at x0 x1 x2 x3 x4 x5
  have HB1 := Lib.hid (up2 (boxed _ _) hb)
  have HX1 := Lib.hid hx
  clear hb hx
  by_cases g1 : 220 < n
  · have g1' : (220 : Int) < (n : Int) := by omega
    clear g1
    go_wp2_with fail
    go_ret
    exact ⟨rfl, HB1.out⟩
  by_cases g2 : 20 < m
  · have g1' : ¬ (220 : Int) < (n : Int) := by omega
    have g2' : (20 : Int) < (m : Int) := by omega
    clear g1 g2
    go_wp2_with fail
    go_ret
    exact ⟨rfl, HB1.out⟩
  have g1' : ¬ (220 : Int) < (n : Int) := by omega
  have g2' : ¬ (20 : Int) < (m : Int) := by omega
  cases hd : dtB D with
  | false =>
    have HN0 := Lib.hid (fun (W : World) => HNo.out W hd)
    have HQ0 := Lib.hid (fun (W : World) => HQNo.out W hd)
    clear g1 g2 hd
    go_wp2_with fail
    refine (HN0.out _).mono ?_
    rintro e w2 ⟨rfl, hb⟩
    have hx := HX1.out.up hb
    have x0 := hx.cell 0
    have x1 := hx.cell 1
    have x2 := hx.cell 2
    have x3 := hx.cell 3
    have x4 := hx.cell 4
    have x5 := hx.cell 5
    simp at x0 x1 x2 x3 x4 x5
    have HB2 := Lib.hid (up2 HB1.out hb)
    clear hb hx
    go_wp2_with fail
    refine (HQ0.out _).mono ?_
    rintro e w3 ⟨rfl, hb⟩
    have HB3 := Lib.hid (up2 HB2.out hb)
    clear hb x0 x1 x2 x3 x4 x5
    go_wp2_with fail
    go_ret
    exact ⟨rfl, HB3.out⟩
  | true =>
    have HN1 := Lib.hid (fun (W : World) => HNew.out W hd (by omega))
    have HQ1 := Lib.hid (fun (W : World) => HQNew.out W hd)
    have hn2 : n ≤ 220 := by omega
    have hm2 : m ≤ 20 := by omega
    clear g1 g2 hd
    go_wp2_with fail
    refine (HN1.out _ HB1.out).mono ?_
    rintro e w2 ⟨px, rfl, hs, hp⟩
    have hb := hs.bel hp
    have HB2 := Lib.hid (up2 HB1.out hb)
    have HS := Lib.hid hs
    have HPx := Lib.hid hp
    have hx := HX1.out.up hb
    have x0 := hx.cell 0
    have x1 := hx.cell 1
    have x2 := hx.cell 2
    have x3 := hx.cell 3
    have x4 := hx.cell 4
    have x5 := hx.cell 5
    simp at x0 x1 x2 x3 x4 x5
    have HSz := Lib.hid hb.size
    clear hs hp hb hx
    go_wp2_with fail
    refine (HQ1.out _).mono ?_
    rintro e w3 ⟨rp, rfl, hq, hb, hp⟩
    have HB3 := Lib.hid (up2 HB2.out hb)
    have HX := Lib.hid (HS.out.up hb)
    have HQ := Lib.hid hq
    have HRp : Hid (w1.heap.size ≤ rp) := Lib.hid (Nat.le_trans HSz.out hp)
    clear hq hb hp x0 x1 x2 x3 x4 x5 g1' g2'
    go_wp2_with fail
    go_loopw [56] (fun i wr => ∃ k : Nat, k ≤ n ∧ i = .int .i64 (k : Int) ∧ ∃ E, Tg w1 wr px D E ∧ Qg wr rp D E) (fun i _ => n - (intOf i).toNat)
    case atStart => exact ⟨0, Nat.zero_le _, rfl, [], HX.out, HQ.out⟩
    case round =>
      obtain ⟨k, hk, rfl, E, hT, hQ⟩ := hrel
      have HT := Lib.hid hT
      have HQr := Lib.hid hQ
      have HBr := Lib.hid (up2 HB1.out (hT.bel HPx.out))
      clear hT hQ
      by_cases hlt : k < n
      · obtain ⟨y, hy⟩ : ∃ y, l[k]? = some y := ⟨l[k]'(by rw [← HN.out]; exact hlt), List.getElem?_eq_getElem _⟩
        obtain ⟨b, o, rfl, c0, c1⟩ := tl_at (HR.out.up HBr.out) hy
        have hay := (HAm.out y (List.mem_of_getElem? hy)).2
        have e1 : IntKind.i64.wrap ((k : Int) + 1) = (k : Int) + 1 := IntWalk.i64_in _ (by omega)
        obtain ⟨A, C⟩ := y
        simp only at c0 c1 hay
        have HAy := Lib.hid hay
        obtain ⟨W1, hW1⟩ : ∃ W1, W1 = wr.alloc (.cells #[.int .i64 A, .int .i64 C] 35) := ⟨_, rfl⟩
        have HT1 : Hid (Tg w1 W1 px D E) := by rw [hW1]; exact Lib.hid (HT.out.up (boxed _ _))
        have HQ1' : Hid (Qg W1 rp D E) := by rw [hW1]; exact Lib.hid (HQr.out.up (boxed _ _))
        have HBox : Hid (Has W1 wr.heap.size 35 #[.int .i64 A, .int .i64 C]) := by rw [hW1]; exact Lib.hid (Has.fresh _ _ _)
        have HW1 := Lib.hid hW1
        clear hy hay hW1
        go_wp2_with fail
        rw [← HW1.out]
        clear c0 c1
        obtain ⟨bt, hbt⟩ : ∃ bt, bt = wr.heap.size := ⟨_, rfl⟩
        rw [← hbt] at HBox ⊢
        have K0 : Hid (W1.drew.cell? ⟨bt, 0, none⟩ = some (.int .i64 A) ∧ W1.drew.cell? ⟨bt, 1, none⟩ = some (.int .i64 C)) := Lib.hid ⟨HBox.out.cell 0, HBox.out.cell 1⟩
        have HTd := Lib.hid (HTell.out _ _ _ _ (HT1.out.up (Below.refl _ _).drew) A C HAy.out)
        obtain ⟨X, hX⟩ : ∃ X, X = telE D.me E A C := ⟨_, rfl⟩
        rw [← hX] at HTd
        have HXe := Lib.hid hX
        obtain ⟨E', hE'⟩ : ∃ E', E' = telS D.me E A C := ⟨_, rfl⟩
        rw [← hE'] at HTd
        have HEe := Lib.hid hE'
        have HBd : Hid (Has W1.drew bt 35 #[.int .i64 A, .int .i64 C]) := Lib.hid HBox.out
        have HQd : Hid (Qg W1.drew rp D E) := Lib.hid (HQ1'.out.up (Below.refl _ _).drew)
        have HQq := Lib.hid (fun (W : World) (q : Qg W rp D E) => HQTell.out W rp E q A C HAy.out)
        rw [← hX, ← hE'] at HQq
        clear hX hE' hbt
        go_region_held3 (fun w' => w'.cell? ⟨bt, 0, none⟩ = some (.int .i64 A) ∧ w'.cell? ⟨bt, 1, none⟩ = some (.int .i64 C))
          (first | (go_keep; done) | (with_reducible exact K0.out) | (with_reducible exact kK1.out) | (with_reducible exact kK2.out))
          (first | (go_at_call 10; (with_reducible refine (HTd.out).mono ?_); rintro e w5 ⟨⟨rfl, hs5⟩, hO5⟩; have kB5 : Hid (Has w5 bt 35 #[.int .i64 A, .int .i64 C]) := Lib.hid (hO5 _ _ _ HBd.out (by decide) (by decide)); have kK1 : Hid (w5.cell? ⟨bt, 0, none⟩ = some (.int .i64 A) ∧ w5.cell? ⟨bt, 1, none⟩ = some (.int .i64 C)) := Lib.hid ⟨kB5.out.cell 0, kB5.out.cell 1⟩; have kQ5 : Hid (Qg w5 rp D E) := Lib.hid (HQd.out.oth hO5); have kT5 := Lib.hid hs5; have kC5 := Lib.hid (HQq.out w5 kQ5.out); clear hs5 hO5) | (go_at_call 11; (with_reducible refine (kC5.out).mono ?_); rintro e w6 ⟨rfl, hq6, hg6⟩; have kT6 : Hid (Tg w1 w6 px D E' ∧ Has w6 bt 35 #[.int .i64 A, .int .i64 C]) := (by obtain ⟨cs, hl⟩ := kQ5.out.log; exact Lib.hid ⟨kT5.out.byq hl HRp.out hg6, (hg6.block _ kB5.out.lt (fun e => kB5.out.ne hl (by decide) (by injection e))).trans kB5.out⟩); have kK2 : Hid (w6.cell? ⟨bt, 0, none⟩ = some (.int .i64 A) ∧ w6.cell? ⟨bt, 1, none⟩ = some (.int .i64 C)) := Lib.hid ⟨kT6.out.2.cell 0, kT6.out.2.cell 1⟩; have kQ6 := Lib.hid hq6; clear hq6 hg6))
        all_goals
          go_wp2_with fail
          refine (HThr.out _ _ _ _ kT6.out.1 A).mono ?_
          rintro e w7 ⟨rfl, hb7⟩
          have HT7 := Lib.hid (kT6.out.1.up hb7)
          have HQ7 := Lib.hid (kQ6.out.up hb7)
          have hB7 := kT6.out.2.up hb7
          have t0 := hB7.cell 0
          simp at t0
          have HB7 := Lib.hid hB7
          clear hb7 hB7
          go_wp2_with fail
          refine (HQThr.out _ _ _ HQ7.out A).mono ?_
          rintro e w8 ⟨rfl, hb8⟩
          have HT8 := Lib.hid (HT7.out.up hb8)
          have HQ8 := Lib.hid (HQ7.out.up hb8)
          clear hb8 t0
          go_wp2_with fail
          exact ⟨⟨k + 1, by omega, by go_num, E', HT8.out, HQ8.out⟩, by simp [intOf]; omega⟩
      · obtain rfl : k = n := by omega
        clear hlt
        go_wp2_with fail
        refine (HThr.out _ _ _ _ HT.out day).mono ?_
        rintro e w7 ⟨rfl, hb7⟩
        have HT7 := Lib.hid (HT.out.up hb7)
        have HQ7 := Lib.hid (HQr.out.up hb7)
        have HB7 := Lib.hid (up2 HBr.out hb7)
        have HD7 := Lib.hid ((HX1.out.up (HT.out.bel HPx.out)).up hb7)
        clear hb7
        go_wp2_with fail
        refine (HQThr.out _ _ _ HQ7.out day).mono ?_
        rintro e w8 ⟨rfl, hb8⟩
        have HT8 := Lib.hid (HT7.out.up hb8)
        have HQ8 := Lib.hid (HQ7.out.up hb8)
        have HB8 := Lib.hid (up2 HB7.out hb8)
        have hD8 := HD7.out.up hb8
        have x0 := hD8.cell 0
        have x1 := hD8.cell 1
        have x2 := hD8.cell 2
        have x3 := hD8.cell 3
        have x4 := hD8.cell 4
        have x5 := hD8.cell 5
        simp at x0 x1 x2 x3 x4 x5
        obtain ⟨ra, rc, hrm⟩ := HQ8.out.many
        generalize thrV D E day = v
        generalize thrW D = v2
        have HMn := Lib.hid (HMany.out _ _ _ _ (HT8.out.up (Below.refl _ _).drew))
        have HDu := Lib.hid (HDuty.out _ _ _ _ (HT8.out.up (Below.refl _ _).drew) (by omega))
        have HB8d : Hid (Below w.heap.size w w8.drew) := Lib.hid HB8.out.drew
        have HOn := Lib.hid (fun (W : World) (a : Option Addr) (c : Nat) (q1 : InA W a D.ls) (q2 : Below w.heap.size w W) => HOne.out W a c q1 q2 (by omega))
        generalize E.length = L at HMn hrm
        have K0 : Hid (w8.drew.cell? ⟨rp, 6, none⟩ = some (.slice ra L rc) ∧ w8.drew.cell? ⟨w.heap.size, 0, none⟩ = some (.slice da m dc) ∧ w8.drew.cell? ⟨w.heap.size, 1, none⟩ = some (.int .i64 al) ∧ w8.drew.cell? ⟨w.heap.size, 2, none⟩ = some (.int .i64 un) ∧ w8.drew.cell? ⟨w.heap.size, 3, none⟩ = some (.int .i64 me) ∧ w8.drew.cell? ⟨w.heap.size, 4, none⟩ = some (.int .i64 fi) ∧ w8.drew.cell? ⟨w.heap.size, 5, none⟩ = some (.int .i64 lA)) := Lib.hid ⟨hrm, x0, x1, x2, x3, x4, x5⟩
        clear hD8
        go_wp2_with fail
        go_region_held3 (fun w' => w'.cell? ⟨rp, 6, none⟩ = some (.slice ra L rc) ∧ w'.cell? ⟨w.heap.size, 0, none⟩ = some (.slice da m dc) ∧ w'.cell? ⟨w.heap.size, 1, none⟩ = some (.int .i64 al) ∧ w'.cell? ⟨w.heap.size, 2, none⟩ = some (.int .i64 un) ∧ w'.cell? ⟨w.heap.size, 3, none⟩ = some (.int .i64 me) ∧ w'.cell? ⟨w.heap.size, 4, none⟩ = some (.int .i64 fi) ∧ w'.cell? ⟨w.heap.size, 5, none⟩ = some (.int .i64 lA))
          (first | (go_keep; done) | (with_reducible exact K0.out) | (with_reducible exact kK1.out) | (with_reducible exact kK2.out))
          (first | (go_at_call 14; (with_reducible refine (HMn.out).mono ?_); rintro e q ⟨rfl, rfl⟩) | (go_at_call 16; (with_reducible refine (HDu.out).mono ?_); rintro e w9 ⟨a', c', rfl, ho9, hb9⟩; have kK1 : Hid (w9.cell? ⟨rp, 6, none⟩ = some (.slice ra L rc) ∧ w9.cell? ⟨w.heap.size, 0, none⟩ = some (.slice da m dc) ∧ w9.cell? ⟨w.heap.size, 1, none⟩ = some (.int .i64 al) ∧ w9.cell? ⟨w.heap.size, 2, none⟩ = some (.int .i64 un) ∧ w9.cell? ⟨w.heap.size, 3, none⟩ = some (.int .i64 me) ∧ w9.cell? ⟨w.heap.size, 4, none⟩ = some (.int .i64 fi) ∧ w9.cell? ⟨w.heap.size, 5, none⟩ = some (.int .i64 lA)) := Lib.hid ⟨kcell hb9 K0.out.1, kcell hb9 K0.out.2.1, kcell hb9 K0.out.2.2.1, kcell hb9 K0.out.2.2.2.1, kcell hb9 K0.out.2.2.2.2.1, kcell hb9 K0.out.2.2.2.2.2.1, kcell hb9 K0.out.2.2.2.2.2.2⟩; have kB9 := Lib.hid (up2 HB8d.out hb9); have kO9 := Lib.hid ((own_rws in_len ho9 HMm.out.symm).1); have kC9 := Lib.hid (HOn.out w9 a' c' kO9.out kB9.out); clear ho9 hb9) | (go_at_call 15; (with_reducible refine (kC9.out).mono ?_); rintro e w10 ⟨rfl, hb10⟩; have kK2 : Hid (w10.cell? ⟨rp, 6, none⟩ = some (.slice ra L rc) ∧ w10.cell? ⟨w.heap.size, 0, none⟩ = some (.slice da m dc) ∧ w10.cell? ⟨w.heap.size, 1, none⟩ = some (.int .i64 al) ∧ w10.cell? ⟨w.heap.size, 2, none⟩ = some (.int .i64 un) ∧ w10.cell? ⟨w.heap.size, 3, none⟩ = some (.int .i64 me) ∧ w10.cell? ⟨w.heap.size, 4, none⟩ = some (.int .i64 fi) ∧ w10.cell? ⟨w.heap.size, 5, none⟩ = some (.int .i64 lA)) := Lib.hid ⟨kcell hb10 kK1.out.1, kcell hb10 kK1.out.2.1, kcell hb10 kK1.out.2.2.1, kcell hb10 kK1.out.2.2.2.1, kcell hb10 kK1.out.2.2.2.2.1, kcell hb10 kK1.out.2.2.2.2.2.1, kcell hb10 kK1.out.2.2.2.2.2.2⟩; have kB10 := Lib.hid (up2 kB9.out hb10); clear hb10))
        all_goals
          go_wp2_with fail
          go_ret
          exact ⟨rfl, kB10.out⟩
end Go.Proofs.Ytlplbgandehkcaa
