/- TrackOnward: its core. -/
import Derived.Test.YtobdcogaphkogaaTrG
namespace Go.Proofs.Ytobdcogaphkogaa
open Go.RowKit

theorem onwS_no {d : Dt} {E : List Tl} {L : List Sp} {day n : Int} (h : onwE d E L day n ≠ 0) : onwS d E L day n = L := by unfold onwS; rw [if_neg h]
theorem afrS_no {L : List Sp} {day n : Int} (h : afrE L day n ≠ 0) : afrS L day n = L := by unfold afrS; rw [if_neg h]
set_option maxRecDepth 100000 in
set_option maxHeartbeats 16000000 in
theorem onward_law (d : Dt) (da : Option Addr) (dc : Nat) (al0 : Int) (a2 : Option Addr) (c2 : Nat) (l : List Op3) (day nn other : Int) (w : World) (hI : InA w da d.ls) (hda : da = none → dc = 0) (hu : Am d.un) (hal : Am al0) (hR : O3A w a2 l) (hAm : AmO l) (hnn : Am nn) :
    Calls Try.prog 5 #[d.val da dc, .int .i64 al0, .slice a2 l.length c2, .int .i64 day, .int .i64 nn, .int .i64 other] w fun e w' => e = .returned (.bool true) ∧ Below w.heap.size w w' := by
  have HAw := Lib.hid (fun (W : World) => awake_any15 W)
  have HNo := Lib.hid (fun (W : World) (q : dtB d = false ∨ al0 < 0) (q2 : d.ls.length ≤ 17592186044416) (q3 : Below w.heap.size w W) => trnew_no (w := W) (d := d) (a := da) (c := dc) al0 q2 (hI.up q3) hda q)
  have HNew := Lib.hid (fun (W : World) (q : dtB d = true) (q0 : 0 ≤ al0) (q2 : d.ls.length ≤ 17592186044416) (q3 : Below w.heap.size w W) => trnew_yes (w := W) (d := d) (a := da) (c := dc) al0 q2 (hI.up q3) hda q q0 hal hu)
  have HDo := Lib.hid (fun (w0 W : World) (b : Nat) (E : List Tl) (L : List Sp) (h : Tf w0 W b d E L) (x : Op3) (q : Am x.n) => h.do x q)
  have HEa := Lib.hid (fun (w0 W : World) (b : Nat) (E : List Tl) (L : List Sp) (h : Tf w0 W b d E L) (x : Int) => h.earned x)
  have HWh := Lib.hid (fun (w0 W : World) (b : Nat) (E : List Tl) (L : List Sp) (h : Tf w0 W b d E L) (x : Int) => h.whole x)
  have HOn := Lib.hid (fun (w0 W : World) (b : Nat) (E : List Tl) (L : List Sp) (h : Tf w0 W b d E L) => h.onward day nn hnn)
  have HNn := Lib.hid hnn
  have HR := Lib.hid hR
  have HAm := Lib.hid hAm
  obtain ⟨n, hn⟩ : ∃ n, n = l.length := ⟨_, rfl⟩
  have HN := Lib.hid hn
  obtain ⟨D, hD⟩ : ∃ D, D = d := ⟨_, rfl⟩
  rw [← hD] at HNo HNew HDo HEa HWh HOn
  unfold Dt.val at HNo HNew ⊢
  rw [← hD, ← hn]
  obtain ⟨m, hm⟩ : ∃ m, m = D.ls.length := ⟨_, rfl⟩
  rw [← hm] at HNo HNew ⊢
  obtain ⟨al, hal⟩ : ∃ al, al = D.al := ⟨_, rfl⟩
  obtain ⟨un, hun⟩ : ∃ un, un = D.un := ⟨_, rfl⟩
  obtain ⟨me, hme⟩ : ∃ me, me = D.me := ⟨_, rfl⟩
  obtain ⟨fi, hfi⟩ : ∃ fi, fi = D.fi := ⟨_, rfl⟩
  obtain ⟨lA, hlA⟩ : ∃ lA, lA = D.la := ⟨_, rfl⟩
  rw [← hal, ← hun, ← hme, ← hfi, ← hlA] at HNo HNew ⊢
  unfold Op3.val at HDo
  clear hI hda hR hAm hn hD hal hun hme hfi hlA hm hu hnn d
  go_enter Try.func5, Try.ntmps5
  go_wp2_with fail
  have HXB := Lib.hid (Has.fresh w 24 #[.slice da m dc, .int .i64 al, .int .i64 un, .int .i64 me, .int .i64 fi, .int .i64 lA])
  refine (HAw.out _).mono ?_
  rintro e w1 ⟨rfl, hb⟩
  have hx := HXB.out.up hb
  have x0 := hx.cell 0
  have x1 := hx.cell 1
  have x2 := hx.cell 2
  have x3 := hx.cell 3
  have x4 := hx.cell 4
  have x5 := hx.cell 5
  simp at x0 x1 x2 x3 x4 x5
  have HB1 := Lib.hid (up2 (boxed _ _) hb)
  clear hb hx
  by_cases g1 : 70 < n
  · have g1' : (70 : Int) < (n : Int) := by omega
    clear g1
    go_wp2_with fail
    go_ret
    exact ⟨rfl, HB1.out⟩
  have g1' : ¬ (70 : Int) < (n : Int) := by omega
  by_cases g2 : 20 < m
  · have g2' : (20 : Int) < (m : Int) := by omega
    clear g1 g2
    go_wp2_with fail
    go_ret
    exact ⟨rfl, HB1.out⟩
  have g2' : ¬ (20 : Int) < (m : Int) := by omega
  by_cases hd : dtB D = false ∨ al0 < 0
  · have HN0 := Lib.hid (HNo.out w1 hd (by omega) HB1.out)
    clear g1 g2 hd
    go_wp2_with fail
    refine HN0.out.mono ?_
    rintro e w2 ⟨rfl, hb⟩
    have HB2 := Lib.hid (up2 HB1.out hb)
    clear hb x0 x1 x2 x3 x4 x5
    go_wp2_with fail
    go_ret
    exact ⟨rfl, HB2.out⟩
  have HN1 := Lib.hid (HNew.out w1 (by cases q : dtB D <;> simp_all) (by omega) (by omega) HB1.out)
  have hn2 : n ≤ 70 := by omega
  clear g1 g2 hd
  go_wp2_with fail
  refine HN1.out.mono ?_
  rintro e w2 ⟨b, rfl, hs⟩
  have HS := Lib.hid hs
  clear hs x0 x1 x2 x3 x4 x5 g1' g2'
  go_wp2_with fail
  go_loopw [43] (fun i wr => ∃ k : Nat, k ≤ n ∧ i = .int .i64 (k : Int) ∧ ∃ E L, Tf w1 wr b D E L) (fun i _ => n - (intOf i).toNat)
  case atStart => exact ⟨0, Nat.zero_le _, rfl, _, _, HS.out⟩
  case round =>
    obtain ⟨k, hk, rfl, E, L, hT⟩ := hrel
    have HT := Lib.hid hT
    have HBr := Lib.hid (up2 HB1.out hT.bel)
    clear hT
    by_cases hlt : k < n
    · obtain ⟨y, hy⟩ : ∃ y, l[k]? = some y := ⟨l[k]'(by rw [← HN.out]; exact hlt), List.getElem?_eq_getElem _⟩
      obtain ⟨g, o, rfl, c0, c1, c2⟩ := o3_at (HR.out.up HBr.out) hy
      have hay := HAm.out y (List.mem_of_getElem? hy)
      have e1 : IntKind.i64.wrap ((k : Int) + 1) = (k : Int) + 1 := IntWalk.i64_in _ (by omega)
      obtain ⟨A, B, C⟩ := y
      simp only at c0 c1 c2 hay
      have HTl := Lib.hid (fun (W : World) (q : Below wr.heap.size wr W) => HDo.out _ _ _ _ _ (HT.out.up q) ⟨A, B, C⟩ hay)
      clear hy hay
      simp only at HTl
      go_wp2_with fail
      refine (HTl.out _ (boxed _ _)).mono ?_
      rintro e w3 ⟨rfl, hs⟩
      have HS3 := Lib.hid hs
      clear hs c0 c1 c2
      go_wp2_with fail
      exact ⟨⟨k + 1, by omega, by go_num, _, _, HS3.out⟩, by simp [intOf]; omega⟩
    · obtain rfl : k = n := by omega
      clear hlt
      obtain ⟨A0, hA0⟩ : ∃ A0, A0 = earV D E L other := ⟨_, rfl⟩
      obtain ⟨B0, hB0⟩ : ∃ B0, B0 = earV D E L day := ⟨_, rfl⟩
      obtain ⟨C0, hC0⟩ : ∃ C0, C0 = altV L := ⟨_, rfl⟩
      obtain ⟨X, hX⟩ : ∃ X, X = onwE D E L day nn := ⟨_, rfl⟩
      obtain ⟨L', hL'⟩ : ∃ L', L' = onwS D E L day nn := ⟨_, rfl⟩
      obtain ⟨A1, hA1⟩ : ∃ A1, A1 = earV D E L' other := ⟨_, rfl⟩
      obtain ⟨B1, hB1⟩ : ∃ B1, B1 = earV D E L' day := ⟨_, rfl⟩
      obtain ⟨C1, hC1⟩ : ∃ C1, C1 = altV L' := ⟨_, rfl⟩
      have hno : X ≠ 0 → A1 = A0 ∧ C1 = C0 := fun q => by
        have e : L' = L := by rw [hL']; exact onwS_no (by rw [← hX]; exact q)
        rw [hA1, hA0, hC1, hC0, e]; exact ⟨rfl, rfl⟩
      have hlt : other < day → A1 = A0 := fun q => by rw [hA1, hA0, hL']; exact track_onward_lt HT.out.fineS q
      have hge : X = 0 → day ≤ other → C1 = nn ∧ B0 ≤ A1 ∧ A1 ≤ nn ∧ (thrV D E day ≠ thrW D → B1 = B0) ∧ (thrV D E day = thrW D → B1 = nn) := fun q q2 => by
        have := track_onward_ge HT.out.fineT HT.out.fineS (by rw [← hX]; exact q) HNn.out.2 q2
        rw [← hL'] at this
        rw [← hC1, ← hA1, ← hB1, ← hB0] at this
        exact this
      have HNo2 := Lib.hid hno
      have HLt := Lib.hid hlt
      have HGe := Lib.hid hge
      have C1c := Lib.hid (HEa.out _ _ _ _ _ HT.out other)
      rw [← hA0] at C1c
      have HB0 := Lib.hid hB0
      have HC0 := Lib.hid hC0
      have HOn2 := Lib.hid (fun (W : World) (h : Tf w1 W b D E L) => HOn.out _ _ _ _ _ h)
      rw [← hX, ← hL'] at HOn2
      have HE2 := Lib.hid (fun (W : World) (h : Tf w1 W b D E L') => HEa.out _ _ _ _ _ h other)
      rw [← hA1] at HE2
      have HE3 := Lib.hid (fun (W : World) (h : Tf w1 W b D E L') => HEa.out _ _ _ _ _ h day)
      rw [← hB1] at HE3
      have HAl := Lib.hid (fun (W : World) (h : Tf w1 W b D E L') => h.allot)
      rw [← hC1] at HAl
      clear hno hlt hge hA0 hB0 hC0 hX hL' hA1 hB1 hC1
      go_wp2_with fail
      refine C1c.out.mono ?_
      rintro e w3 ⟨rfl, hb⟩
      have HT3 := Lib.hid (HT.out.up hb)
      clear hb
      have C2c := Lib.hid (HEa.out _ _ _ _ _ HT3.out day)
      rw [← HB0.out] at C2c
      go_wp2_with fail
      refine C2c.out.mono ?_
      rintro e w4 ⟨rfl, hb⟩
      have HT4 := Lib.hid (HT3.out.up hb)
      clear hb
      have C3c := Lib.hid HT4.out.allot
      rw [← HC0.out] at C3c
      go_wp2_with fail
      refine C3c.out.mono ?_
      rintro e w5 ⟨rfl, hb⟩
      have HT5 := Lib.hid (HT4.out.up hb)
      clear hb
      go_wp2_with fail
      refine (HOn2.out _ HT5.out).mono ?_
      rintro e w6 ⟨rfl, hs⟩
      have HT6 := Lib.hid hs
      clear hs
      go_wp2_with fail
      refine (HE2.out _ HT6.out).mono ?_
      rintro e w7 ⟨rfl, hb⟩
      have HT7 := Lib.hid (HT6.out.up hb)
      clear hb
      by_cases q : X = 0
      · have q' : (X != 0) = false := by simpa using q
        have q2' : (X == 0) = true := by simpa using q
        have HQ := Lib.hid q
        clear q
        by_cases q3 : other < day
        · have e1 := HLt.out q3
          go_wp2_with fail
          go_ret
          exact ⟨by simp, up2 HB1.out HT7.out.bel⟩
        · obtain ⟨i1, i2, i3, i4, i5⟩ := HGe.out HQ.out (by omega)
          have I4 := Lib.hid i4
          have I5 := Lib.hid i5
          clear i4 i5
          have HA7 := Lib.hid (HAl.out _ HT7.out)
          go_wp2_with fail
          refine HA7.out.mono ?_
          rintro e w8 ⟨rfl, hb⟩
          have HT8 := Lib.hid (HT7.out.up hb)
          clear hb
          have HW8 := Lib.hid (HWh.out _ _ _ _ _ HT8.out day)
          cases hq : (thrV D E day == thrW D) with
          | false =>
            rw [hq] at HW8
            have HNq : Hid (¬ thrV D E day = thrW D) := Lib.hid (by simpa using hq)
            have e4 := I4.out HNq.out
            clear hq
            go_wp2_with fail
            refine HW8.out.mono ?_
            rintro e w9 ⟨rfl, hb⟩
            have HT9 := Lib.hid (HT8.out.up hb)
            clear hb
            have HE9 := Lib.hid (HE3.out _ HT9.out)
            go_wp2_with fail
            refine HE9.out.mono ?_
            rintro e w10 ⟨rfl, hb⟩
            have HT10 := Lib.hid (HT9.out.up hb)
            clear hb
            have HW10 := Lib.hid (HWh.out _ _ _ _ _ HT10.out day)
            cases hq : (thrV D E day == thrW D) with
            | true => exact absurd (by simpa using hq) (HNq.out)
            | false =>
              rw [hq] at HW10
              clear hq
              go_wp2_with fail
              refine HW10.out.mono ?_
              rintro e w11 ⟨rfl, hb⟩
              have HT11 := Lib.hid (HT10.out.up hb)
              clear hb
              go_wp2_with fail
              go_ret
              exact ⟨by simp, up2 HB1.out HT11.out.bel⟩
          | true =>
            have e5 := I5.out (by simpa using hq)
            rw [hq] at HW8
            have HW9' := Lib.hid (fun (W : World) (h : Tf w1 W b D E L') => HWh.out _ _ _ _ _ h day)
            rw [hq] at HW9'
            clear hq
            go_wp2_with fail
            refine HW8.out.mono ?_
            rintro e w9 ⟨rfl, hb⟩
            have HT9 := Lib.hid (HT8.out.up hb)
            clear hb
            have HW9 := Lib.hid (HW9'.out _ HT9.out)
            go_wp2_with fail
            refine HW9.out.mono ?_
            rintro e w10 ⟨rfl, hb⟩
            have HT10 := Lib.hid (HT9.out.up hb)
            clear hb
            have HE10 := Lib.hid (HE3.out _ HT10.out)
            go_wp2_with fail
            refine HE10.out.mono ?_
            rintro e w11 ⟨rfl, hb⟩
            have HT11 := Lib.hid (HT10.out.up hb)
            clear hb
            go_wp2_with fail
            go_ret
            exact ⟨by simp, up2 HB1.out HT11.out.bel⟩
      · have q' : (X != 0) = true := by simpa using q
        have q2' : (X == 0) = false := by simpa using q
        obtain ⟨e1, e2⟩ := HNo2.out q
        clear q
        have HA7 := Lib.hid (HAl.out _ HT7.out)
        go_wp2_with fail
        refine HA7.out.mono ?_
        rintro e w8 ⟨rfl, hb⟩
        have HT8 := Lib.hid (HT7.out.up hb)
        clear hb
        go_wp2_with fail
        go_ret
        exact ⟨by simp, up2 HB1.out HT8.out.bel⟩
end Go.Proofs.Ytobdcogaphkogaa
