/- awake. -/
import Derived.Test.YtobdcogaphkogaaTrE
namespace Go.Proofs.Ytobdcogaphkogaa
open Go.RowKit

def rD1 : Dt := ⟨[], 0, 1, 0, 1, 10⟩
def rL1 : List Sp := [⟨0, 0, 0, 100⟩]
def rL2 : List Sp := [⟨0, 0, 0, 100⟩, ⟨5, 5, 50, 100⟩]
def rL3 : List Sp := [⟨0, 0, 0, 100⟩, ⟨5, 5, 50, 100⟩, ⟨6, 0, 0, 200⟩]
theorem rk1 : dtB rD1 = true := rfl
theorem rk2 : onwE rD1 [] rL1 5 49 = 1 ∧ onwS rD1 [] rL1 5 49 = rL1 := ⟨by decide, rfl⟩
theorem rk3 : onwE rD1 [] rL1 5 150 = 0 ∧ onwS rD1 [] rL1 5 150 = rL2 := ⟨by decide, rfl⟩
theorem rk4 : earV rD1 [] rL2 5 = 50 ∧ earV rD1 [] rL2 8 = 110 ∧ earV rD1 [] rL2 4 = 40 := ⟨by decide, by decide, by decide⟩
theorem rk5 : afrE rL2 4 200 = 11 ∧ afrS rL2 4 200 = rL2 := ⟨by decide, rfl⟩
theorem rk6 : afrE rL2 6 200 = 0 ∧ afrS rL2 6 200 = rL3 := ⟨by decide, rfl⟩
theorem rk7 : earV rD1 [] rL3 6 = 120 ∧ altV rL3 = 200 ∧ (lastS rL3).fr = 6 := ⟨by decide, by decide, by decide⟩
theorem rk8 : (thrV rD1 [] 10 == thrW rD1) = true ∧ (thrV rD1 [] 9 == thrW rD1) = false := ⟨by decide, by decide⟩
theorem rk9 : telE rD1.me [] 1 1 = 1 ∧ telS rD1.me [] 1 1 = [] := ⟨rfl, rfl⟩
set_option maxRecDepth 100000 in
set_option maxHeartbeats 16000000 in
theorem awake_any15 (w : World) : Calls Try.prog 7 #[] w fun e w' => e = .returned (.bool true) ∧ Below w.heap.size w w' := by
  go_enter Try.func7, Try.ntmps7
  go_wp2_with fail
  have h1 := fun (W : World) => trnew_yes (w := W) (d := rD1) (a := none) (c := 0) 100 (by decide) (.inl rfl) (fun _ => rfl) rk1 (by decide) (am_small (by decide) (by decide)) (am_small (by decide) (by decide))
  refine (h1 _).mono ?_
  rintro e w1 ⟨b, rfl, hs⟩
  have K1 := Lib.hid hs
  clear hs h1
  go_wp2_with fail
  have h2 := fun (W : World) => trnew_no (w := W) (d := rD1) (a := none) (c := 0) (-1) (by decide) (.inl rfl) (fun _ => rfl) (.inr (by decide))
  refine (h2 _).mono ?_
  rintro e w2 ⟨rfl, hb⟩
  have K2 := Lib.hid (K1.out.up hb)
  clear hb h2
  go_wp2_with fail
  refine (K2.out.onward 5 49 (am_small (by decide) (by decide))).mono ?_
  rintro e w3 ⟨rfl, hs⟩
  rw [show onwS rD1 [] [⟨0, 0, 0, 100⟩] 5 49 = rL1 from rk2.2] at hs
  rw [show onwE rD1 [] [⟨0, 0, 0, 100⟩] 5 49 = 1 from rk2.1]
  have K3 := Lib.hid hs
  clear hs
  go_wp2_with fail
  refine (K3.out.onward 5 150 (am_small (by decide) (by decide))).mono ?_
  rintro e w4 ⟨rfl, hs⟩
  rw [rk3.2] at hs
  rw [rk3.1]
  have K4 := Lib.hid hs
  clear hs
  go_wp2_with fail
  refine (K4.out.earned 5).mono ?_
  rintro e w5 ⟨rfl, hb⟩
  rw [rk4.1]
  have K5 := Lib.hid (K4.out.up hb)
  clear hb
  go_wp2_with fail
  refine (K5.out.earned 8).mono ?_
  rintro e w6 ⟨rfl, hb⟩
  rw [rk4.2.1]
  have K6 := Lib.hid (K5.out.up hb)
  clear hb
  go_wp2_with fail
  refine (K6.out.earned 4).mono ?_
  rintro e w7 ⟨rfl, hb⟩
  rw [rk4.2.2]
  have K7 := Lib.hid (K6.out.up hb)
  clear hb
  go_wp2_with fail
  refine (K7.out.afresh 4 200 (am_small (by decide) (by decide))).mono ?_
  rintro e w8 ⟨rfl, hs⟩
  rw [rk5.2] at hs
  rw [rk5.1]
  have K8 := Lib.hid hs
  clear hs
  go_wp2_with fail
  refine (K8.out.afresh 6 200 (am_small (by decide) (by decide))).mono ?_
  rintro e w9 ⟨rfl, hs⟩
  rw [rk6.2] at hs
  rw [rk6.1]
  have K9 := Lib.hid hs
  clear hs
  go_wp2_with fail
  refine (K9.out.earned 6).mono ?_
  rintro e w10 ⟨rfl, hb⟩
  rw [rk7.1]
  have K10 := Lib.hid (K9.out.up hb)
  clear hb
  go_wp2_with fail
  refine (K10.out.allot).mono ?_
  rintro e w11 ⟨rfl, hb⟩
  rw [rk7.2.1]
  have K11 := Lib.hid (K10.out.up hb)
  clear hb
  go_wp2_with fail
  refine (K11.out.since).mono ?_
  rintro e w12 ⟨rfl, hb⟩
  rw [rk7.2.2]
  have K12 := Lib.hid (K11.out.up hb)
  clear hb
  go_wp2_with fail
  refine (K12.out.whole 10).mono ?_
  rintro e w13 ⟨rfl, hb⟩
  rw [rk8.1]
  have K13 := Lib.hid (K12.out.up hb)
  clear hb
  go_wp2_with fail
  refine (K13.out.whole 9).mono ?_
  rintro e w14 ⟨rfl, hb⟩
  rw [rk8.2]
  have hK := K13.out.up hb
  have K14 := Lib.hid hK
  obtain ⟨p, hc, ht, _⟩ := hK.ptr
  have HT := Lib.hid (ht 1 1 (am_small (by decide) (by decide)))
  clear hb ht hK
  go_wp2_with fail
  refine (HT.out).mono ?_
  rintro e w15 ⟨rfl, hs⟩
  rw [rk9.2] at hs
  rw [rk9.1]
  obtain ⟨p2, hc2, _, hd⟩ := hs.ptr
  have K15 := Lib.hid hs
  have HD := Lib.hid (hd (by decide))
  clear hs hd
  go_wp2_with fail
  refine (HD.out).mono ?_
  rintro e w16 ⟨a, c, rfl, _, hb⟩
  have K16 := Lib.hid (K15.out.up hb)
  clear hb
  rw [show rD1.val a c = .agg #[.slice a 0 c, .int .i64 0, .int .i64 1, .int .i64 0, .int .i64 1, .int .i64 10] from rfl]
  have hfld : ∀ W : World, (Instr.field 24 (.agg #[.slice a 0 c, .int .i64 0, .int .i64 1, .int .i64 0, .int .i64 1, .int .i64 10]) 5).run Try.prog W = .ok (.int .i64 10) W := fun _ => by kernel_rfl
  go_wp2_with fail
  go_ret
  exact ⟨rfl, K16.out.bel⟩
end Go.Proofs.Ytobdcogaphkogaa

namespace Go.Proofs.Ytobdcogaphkogaa
open Go.RowKit

def o3C (x : Op3) : List Value := [.int .i64 x.k, .int .i64 x.dy, .int .i64 x.n]
theorem o3_len (x : Op3) : (o3C x).length = 3 := rfl
abbrev O3A (w : World) (a : Option Addr) (l : List Op3) : Prop := Rws o3C 3 w a l
theorem o3_at {w : World} {a : Option Addr} {l : List Op3} (h : O3A w a l) {j : Nat} {x : Op3} (hx : l[j]? = some x) : ∃ b o, a = some ⟨b, o, none⟩ ∧ w.cell? ⟨b, o + j * 3, none⟩ = some (.int .i64 x.k) ∧ w.cell? ⟨b, o + j * 3 + 1, none⟩ = some (.int .i64 x.dy) ∧ w.cell? ⟨b, o + j * 3 + 2, none⟩ = some (.int .i64 x.n) := by
  rcases h with z | ⟨b, o, z, hz⟩
  · rw [z] at hx; simp at hx
  · exact ⟨b, o, z, hz j x hx 0 _ rfl, hz j x hx 1 _ rfl, hz j x hx 2 _ rfl⟩
def AmO (l : List Op3) : Prop := ∀ x ∈ l, Am x.n
set_option maxRecDepth 100000 in
set_option maxHeartbeats 16000000 in
theorem within_law (d : Dt) (da : Option Addr) (dc : Nat) (al0 : Int) (a2 : Option Addr) (c2 : Nat) (l : List Op3) (ea la : Int) (w : World) (hI : InA w da d.ls) (hda : da = none → dc = 0) (hu : Am d.un) (hal : Am al0) (hR : O3A w a2 l) (hAm : AmO l) :
    Calls Try.prog 4 #[d.val da dc, .int .i64 al0, .slice a2 l.length c2, .int .i64 ea, .int .i64 la] w fun e w' => e = .returned (.bool true) ∧ Below w.heap.size w w' := by
  have HAw := Lib.hid (fun (W : World) => awake_any15 W)
  have HNo := Lib.hid (fun (W : World) (q : dtB d = false ∨ al0 < 0) (q2 : d.ls.length ≤ 17592186044416) (q3 : Below w.heap.size w W) => trnew_no (w := W) (d := d) (a := da) (c := dc) al0 q2 (hI.up q3) hda q)
  have HNew := Lib.hid (fun (W : World) (q : dtB d = true) (q0 : 0 ≤ al0) (q2 : d.ls.length ≤ 17592186044416) (q3 : Below w.heap.size w W) => trnew_yes (w := W) (d := d) (a := da) (c := dc) al0 q2 (hI.up q3) hda q q0 hal hu)
  have HDo := Lib.hid (fun (w0 W : World) (b : Nat) (E : List Tl) (L : List Sp) (h : Tf w0 W b d E L) (x : Op3) (q : Am x.n) => h.do x q)
  have HEa := Lib.hid (fun (w0 W : World) (b : Nat) (E : List Tl) (L : List Sp) (h : Tf w0 W b d E L) (x : Int) => h.earned x)
  have HWh := Lib.hid (fun (w0 W : World) (b : Nat) (E : List Tl) (L : List Sp) (h : Tf w0 W b d E L) (x : Int) => h.whole x)
  have HR := Lib.hid hR
  have HAm := Lib.hid hAm
  obtain ⟨n, hn⟩ : ∃ n, n = l.length := ⟨_, rfl⟩
  have HN := Lib.hid hn
  obtain ⟨D, hD⟩ : ∃ D, D = d := ⟨_, rfl⟩
  rw [← hD] at HNo HNew HDo HEa HWh
  unfold Dt.val at HNo HNew ⊢
  rw [← hD, ← hn]
  obtain ⟨m, hm⟩ : ∃ m, m = D.ls.length := ⟨_, rfl⟩
  rw [← hm] at HNo HNew ⊢
  obtain ⟨al, hal⟩ : ∃ al, al = D.al := ⟨_, rfl⟩
  obtain ⟨un, hun⟩ : ∃ un, un = D.un := ⟨_, rfl⟩
  obtain ⟨me, hme⟩ : ∃ me, me = D.me := ⟨_, rfl⟩
  obtain ⟨fi, hfi⟩ : ∃ fi, fi = D.fi := ⟨_, rfl⟩
  obtain ⟨lA, hlA⟩ : ∃ lA, lA = D.la := ⟨_, rfl⟩
  rw [← hal, ← hun, ← hme, ← hfi, ← hlA] at HNo HNew ⊢
  unfold Op3.val at HDo
  clear hI hda hR hAm hn hD hal hun hme hfi hlA hm hu d
  go_enter Try.func4, Try.ntmps4
  go_wp2_with fail
  have HXB := Lib.hid (Has.fresh w 24 #[.slice da m dc, .int .i64 al, .int .i64 un, .int .i64 me, .int .i64 fi, .int .i64 lA])
  refine (HAw.out _).mono ?_
  rintro e w1 ⟨rfl, hb⟩
  have hx := HXB.out.up hb
  have x0 := hx.cell 0
  have x1 := hx.cell 1
  have x2 := hx.cell 2
  have x3 := hx.cell 3
  have x4 := hx.cell 4
  have x5 := hx.cell 5
  simp at x0 x1 x2 x3 x4 x5
  have HB1 := Lib.hid (up2 (boxed _ _) hb)
  clear hb hx
  by_cases g1 : 70 < n
  · have g1' : (70 : Int) < (n : Int) := by omega
    clear g1
    go_wp2_with fail
    go_ret
    exact ⟨rfl, HB1.out⟩
  have g1' : ¬ (70 : Int) < (n : Int) := by omega
  by_cases g2 : 20 < m
  · have g2' : (20 : Int) < (m : Int) := by omega
    clear g1 g2
    go_wp2_with fail
    go_ret
    exact ⟨rfl, HB1.out⟩
  have g2' : ¬ (20 : Int) < (m : Int) := by omega
  by_cases hd : dtB D = false ∨ al0 < 0
  · have HN0 := Lib.hid (HNo.out w1 hd (by omega) HB1.out)
    clear g1 g2 hd
    go_wp2_with fail
    refine HN0.out.mono ?_
    rintro e w2 ⟨rfl, hb⟩
    have HB2 := Lib.hid (up2 HB1.out hb)
    clear hb x0 x1 x2 x3 x4 x5
    go_wp2_with fail
    go_ret
    exact ⟨rfl, HB2.out⟩
  have HN1 := Lib.hid (HNew.out w1 (by cases q : dtB D <;> simp_all) (by omega) (by omega) HB1.out)
  have hn2 : n ≤ 70 := by omega
  clear g1 g2 hd
  go_wp2_with fail
  refine HN1.out.mono ?_
  rintro e w2 ⟨b, rfl, hs⟩
  have HS := Lib.hid hs
  clear hs x0 x1 x2 x3 x4 x5 g1' g2'
  go_wp2_with fail
  go_loopw [38] (fun i wr => ∃ k : Nat, k ≤ n ∧ i = .int .i64 (k : Int) ∧ ∃ E L, Tf w1 wr b D E L) (fun i _ => n - (intOf i).toNat)
  case atStart => exact ⟨0, Nat.zero_le _, rfl, _, _, HS.out⟩
  case round =>
    obtain ⟨k, hk, rfl, E, L, hT⟩ := hrel
    have HT := Lib.hid hT
    have HBr := Lib.hid (up2 HB1.out hT.bel)
    clear hT
    by_cases hlt : k < n
    · obtain ⟨y, hy⟩ : ∃ y, l[k]? = some y := ⟨l[k]'(by rw [← HN.out]; exact hlt), List.getElem?_eq_getElem _⟩
      obtain ⟨g, o, rfl, c0, c1, c2⟩ := o3_at (HR.out.up HBr.out) hy
      have hay := HAm.out y (List.mem_of_getElem? hy)
      have e1 : IntKind.i64.wrap ((k : Int) + 1) = (k : Int) + 1 := IntWalk.i64_in _ (by omega)
      obtain ⟨A, B, C⟩ := y
      simp only at c0 c1 c2 hay
      have HTl := Lib.hid (fun (W : World) (q : Below wr.heap.size wr W) => HDo.out _ _ _ _ _ (HT.out.up q) ⟨A, B, C⟩ hay)
      clear hy hay
      simp only at HTl
      go_wp2_with fail
      refine (HTl.out _ (boxed _ _)).mono ?_
      rintro e w3 ⟨rfl, hs⟩
      have HS3 := Lib.hid hs
      clear hs c0 c1 c2
      go_wp2_with fail
      exact ⟨⟨k + 1, by omega, by go_num, _, _, HS3.out⟩, by simp [intOf]; omega⟩
    · obtain rfl : k = n := by omega
      have HSi := Lib.hid HT.out.since
      clear hlt
      obtain ⟨s, hs⟩ : ∃ s, s = (lastS L).fr := ⟨_, rfl⟩
      rw [← hs] at HSi
      have HSe := Lib.hid hs
      clear hs
      go_wp2_with fail
      refine HSi.out.mono ?_
      rintro e w3 ⟨rfl, hb⟩
      have HT3 := Lib.hid (HT.out.up hb)
      clear hb
      by_cases q : la < max ea s
      · go_wp2_with fail
        all_goals
          go_ret
          exact ⟨rfl, up2 HB1.out HT3.out.bel⟩
      · have hw := track_within HT.out.fineT HT.out.fineS (a := max ea s) (b := la) (by rw [← HSe.out]; omega) (by omega)
        obtain ⟨f, hf⟩ : ∃ f, f = max ea s := ⟨_, rfl⟩
        have HW := Lib.hid hw
        rw [← hf] at HW
        clear hw
        go_wp2_with fail
        rw [← hf]
        obtain ⟨A, hA⟩ : ∃ A, A = earV D E L f := ⟨_, rfl⟩
        obtain ⟨B, hB⟩ : ∃ B, B = earV D E L la := ⟨_, rfl⟩
        obtain ⟨C, hC⟩ : ∃ C, C = altV L := ⟨_, rfl⟩
        have C1 := Lib.hid (HEa.out _ _ _ _ _ HT3.out f)
        rw [← hA] at C1 HW
        rw [← hB, ← hC] at HW
        have HBe := Lib.hid hB
        have HCe := Lib.hid hC
        clear hA hB hC hf
        refine C1.out.mono ?_
        rintro e w4 ⟨rfl, hb⟩
        have HT4 := Lib.hid (HT3.out.up hb)
        clear hb
        have C2 := Lib.hid (HEa.out _ _ _ _ _ HT4.out la)
        rw [← HBe.out] at C2
        go_wp2_with fail
        refine C2.out.mono ?_
        rintro e w5 ⟨rfl, hb⟩
        have HT5 := Lib.hid (HT4.out.up hb)
        clear hb
        have C3 := Lib.hid HT5.out.allot
        rw [← HCe.out] at C3
        obtain ⟨i1, i2, i3, i4⟩ := HW.out
        have HI4 := Lib.hid i4
        clear i4
        go_wp2_with fail
        refine C3.out.mono ?_
        rintro e w6 ⟨rfl, hb⟩
        have HT6 := Lib.hid (HT5.out.up hb)
        clear hb
        have C4 := Lib.hid (HWh.out _ _ _ _ _ HT6.out la)
        cases hq : (thrV D E la == thrW D) with
        | false =>
          rw [hq] at C4
          go_wp2_with fail
          refine C4.out.mono ?_
          rintro e w7 ⟨rfl, hb⟩
          have HT7 := Lib.hid (HT6.out.up hb)
          clear hb
          go_wp2_with fail
          go_ret
          exact ⟨rfl, up2 HB1.out HT7.out.bel⟩
        | true =>
          have e4 := HI4.out (by simpa using hq)
          rw [hq] at C4
          go_wp2_with fail
          refine C4.out.mono ?_
          rintro e w7 ⟨rfl, hb⟩
          have HT7 := Lib.hid (HT6.out.up hb)
          clear hb
          have C5 := Lib.hid HT7.out.allot
          rw [← HCe.out] at C5
          go_wp2_with fail
          refine C5.out.mono ?_
          rintro e w8 ⟨rfl, hb⟩
          have HT8 := Lib.hid (HT7.out.up hb)
          clear hb
          go_wp2_with fail
          go_ret
          exact ⟨rfl, up2 HB1.out HT8.out.bel⟩
end Go.Proofs.Ytobdcogaphkogaa
