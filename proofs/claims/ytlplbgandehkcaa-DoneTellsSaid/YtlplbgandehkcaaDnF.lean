/- Duty; New, written out; awake. -/
import Derived.Test.YtlplbgandehkcaaDnE
namespace Go.Proofs.Ytlplbgandehkcaa
open Go.RowKit

section
variable {w : World} {B p : Nat} {d : Dt} {E : List Tl} {la : Option Addr} {lc : Nat} {tv : Value}
set_option maxRecDepth 100000 in
set_option maxHeartbeats 2000000 in
theorem duty_any (h : TgX w B p d E la lc tv) (h2 : d.ls.length ≤ 17592186044416) : Calls Try.prog 16 #[.pointer (some ⟨p, 0, none⟩)] w (CopR14 w d) := by
  have hcp := fun (W : World) (q : Below w.heap.size w W) => copied_any d la lc W h2 (h.lines.1.up q) h.lines.2
  have hh := h.has
  unfold CopR14 at hcp ⊢
  obtain ⟨ls, al, un, me, fi, la2⟩ := d
  unfold Dt.val at hcp ⊢
  simp only at hcp hh ⊢
  obtain ⟨n, hn⟩ : ∃ n, n = ls.length := ⟨_, rfl⟩
  rw [← hn] at hcp hh ⊢
  have c0 := hh.cell 0
  have c1 := hh.cell 1
  have c2 := hh.cell 2
  have c3 := hh.cell 3
  have c4 := hh.cell 4
  have c5 := hh.cell 5
  simp at c0 c1 c2 c3 c4 c5
  have HC := Lib.hid hcp
  have hlt := hh.lt
  clear hcp hh h h2 hn
  go_enter Try.func16, Try.ntmps16
  go_wp2_with fail
  have HY := Lib.hid (Has.fresh w 24 #[.slice none 0 0, .int .i64 0, .int .i64 0, .int .i64 0, .int .i64 0, .int .i64 0])
  refine (HC.out _ (boxed _ _)).mono ?_
  rintro e w3 ⟨a', c', rfl, hown, hb⟩
  have hy := HY.out.up hb
  have yf0 := hy.free 0
  have yf1 := hy.free 1
  have yf2 := hy.free 2
  have yf3 := hy.free 3
  have yf4 := hy.free 4
  have yf5 := hy.free 5
  have y0 := hy.cell 0
  have y1 := hy.cell 1
  have y2 := hy.cell 2
  have y3 := hy.cell 3
  have y4 := hy.cell 4
  have y5 := hy.cell 5
  have HY3 := Lib.hid hy
  have HO := Lib.hid hown
  have HB := Lib.hid (up2 (boxed _ _) hb)
  clear hy hown hb c0 c1 c2 c3 c4 c5 hlt
  simp at y0 y1 y2 y3 y4 y5
  go_wp2_with fail
  obtain ⟨Wf, hWf⟩ : ∃ Wf, Wf = put6 w3 w.heap.size (.slice a' n c') (.int .i64 al) (.int .i64 un) (.int .i64 me) (.int .i64 fi) (.int .i64 la2) := ⟨_, rfl⟩
  have g2 : w3.grownBy Wf (some w.heap.size) := by rw [hWf]; exact put6_grown _ _ _ _ _ _ _ _
  have hf : Has Wf w.heap.size 24 #[.slice a' n c', .int .i64 al, .int .i64 un, .int .i64 me, .int .i64 fi, .int .i64 la2] := by rw [hWf]; exact put6_has HY3.out _ _ _ _ _ _
  have hof := own_beside HO.out HY3.out (by decide) g2
  have r0 := hf.cell 0
  have r1 := hf.cell 1
  have r2 := hf.cell 2
  have r3 := hf.cell 3
  have r4 := hf.cell 4
  have r5 := hf.cell 5
  have hbf := HB.out.grown g2 HB.out.size (fun j hj => by injection hj with hj; omega)
  unfold put6 at hWf
  rw [← hWf]
  simp at r0 r1 r2 r3 r4 r5
  exact bodyPost_ret (v := .agg #[.slice a' n c', .int .i64 al, .int .i64 un, .int .i64 me, .int .i64 fi, .int .i64 la2]) (by simp [results, Try.results16, go_sem, r0, r1, r2, r3, r4, r5]) rfl ⟨a', c', rfl, hof, hbf⟩
/-- what isn't told leaves all as it was -/
def TnoR (w : World) (X : Int) (e : Ending) (w' : World) : Prop := e = .returned (.int .i64 X) ∧ Below w.heap.size w w'
set_option maxRecDepth 100000 in
set_option maxHeartbeats 1000000 in
theorem tell_no (h : TgX w B p d E la lc tv) (day n : Int) (hn : Am n) {X : Int} (hX : telE d.me E day n = X) (h0 : X ≠ 0) : Calls Try.prog 10 #[.pointer (some ⟨p, 0, none⟩), .int .i64 day, .int .i64 n] w (TnoR w X) := by
  unfold TnoR
  have HC := Lib.hid (check_any14 h day n hn)
  rw [hX] at HC
  have q' : (X != 0) = true := by simpa using h0
  clear h hX hn h0
  go_enter Try.func10, Try.ntmps10
  go_wp2_with fail
  refine HC.out.mono ?_
  rintro e w1 ⟨rfl, hb⟩
  have HB := Lib.hid hb
  clear hb
  go_wp2_with fail
  go_ret
  exact ⟨rfl, HB.out⟩
end
section
variable {w0 w : World} {p : Nat} {d : Dt} {E : List Tl}
theorem Tg.thr (h : Tg w0 w p d E) (day : Int) : Calls Try.prog 12 #[.pointer (some ⟨p, 0, none⟩), .int .i64 day] w (ThrR w d E day) := by
  obtain ⟨⟨la, lc, tv, hx⟩, _⟩ := h; exact thr_any hx day
theorem Tg.no (h : Tg w0 w p d E) (day n : Int) (hn : Am n) {X : Int} (hX : telE d.me E day n = X) (h0 : X ≠ 0) : Calls Try.prog 10 #[.pointer (some ⟨p, 0, none⟩), .int .i64 day, .int .i64 n] w (TnoR w X) := by
  obtain ⟨⟨la, lc, tv, hx⟩, _⟩ := h; exact tell_no hx day n hn hX h0
theorem Tg.many (h : Tg w0 w p d E) : Calls Try.prog 14 #[.pointer (some ⟨p, 0, none⟩)] w fun e w' => e = .returned (.int .i64 (E.length : Int)) ∧ w = w' := by
  obtain ⟨⟨la, lc, tv, hx⟩, _⟩ := h; exact tmany_any hx
theorem Tg.duty (h : Tg w0 w p d E) (h2 : d.ls.length ≤ 17592186044416) : Calls Try.prog 16 #[.pointer (some ⟨p, 0, none⟩)] w (CopR14 w d) := by
  obtain ⟨⟨la, lc, tv, hx⟩, _⟩ := h; exact duty_any hx h2
end
def tD1 : Dt := ⟨[], 0, 1, 0, 10, 19⟩
def tD2 : Dt := ⟨[], 0, 1, 2, 10, 19⟩
def tD3 : Dt := ⟨[], 0, 0, 0, 1, 1⟩
def tE2 : List Tl := [(5, 3000)]
theorem tk1 : dtB tD1 = true ∧ dtB tD2 = true ∧ dtB tD3 = false := ⟨rfl, rfl, rfl⟩
theorem tk2 : thrV tD1 [] 15 = 6 ∧ thrW tD1 = 10 ∧ telE tD1.me [] 5 1 = 1 := ⟨rfl, rfl, rfl⟩
theorem tk3 : telE tD2.me [] 5 3000 = 0 ∧ telS tD2.me [] 5 3000 = tE2 ∧ telE tD2.me tE2 4 4000 = 11 ∧ telE tD2.me tE2 5 3000 = 6 := ⟨rfl, rfl, rfl, rfl⟩
theorem tk4 : thrV tD2 tE2 5 = 3000 ∧ thrW tD2 = 10000 := ⟨rfl, rfl⟩
set_option maxRecDepth 100000 in
set_option maxHeartbeats 16000000 in
theorem awake_any14 (w : World) : Calls Try.prog 7 #[] w fun e w' => e = .returned (.bool true) ∧ Below w.heap.size w w' := by
  go_enter Try.func7, Try.ntmps7
  go_wp2_with fail
  have h1 := fun (W : World) => tnew_yes (w := W) (d := tD1) (a := none) (c := 0) tk1.1 (by decide) (.inl rfl) (fun _ => rfl)
  refine (h1 _).mono ?_
  rintro e w1 ⟨p1, rfl, hs, hp⟩
  have K1 := Lib.hid hs
  have B1 := Lib.hid (hs.bel hp)
  clear hs h1 hp
  go_wp2_with fail
  have h2 := fun (W : World) => tnew_yes (w := W) (d := tD2) (a := none) (c := 0) tk1.2.1 (by decide) (.inl rfl) (fun _ => rfl)
  refine (h2 _).mono ?_
  rintro e w2 ⟨p2, rfl, hs, hp⟩
  have K2 := Lib.hid (K1.out.up (hs.bel hp))
  have B2 := Lib.hid (up2 B1.out (hs.bel hp))
  have M2 := Lib.hid hs
  have P2 := Lib.hid hp
  clear hs h2 hp
  go_wp2_with fail
  have h3 := fun (W : World) => tnew_no (w := W) (d := tD3) (a := none) (c := 0) tk1.2.2
  refine (h3 _).mono ?_
  rintro e w3 ⟨rfl, hb⟩
  have K3 := Lib.hid (K2.out.up hb)
  have B3 := Lib.hid (up2 B2.out hb)
  have M3 := Lib.hid (M2.out.up hb)
  clear hb h3
  go_wp2_with fail
  refine (K3.out.thr 15).mono ?_
  rintro e w4 ⟨rfl, hb⟩
  have K4 := Lib.hid (K3.out.up hb)
  have M4 := Lib.hid (M3.out.up hb)
  clear hb
  rw [tk2.1, tk2.2.1]
  go_wp2_with fail
  refine (K4.out.no 5 1 (am_small (by decide) (by decide)) tk2.2.2 (by decide)).mono ?_
  rintro e w5 ⟨rfl, hb⟩
  have M5 := Lib.hid (M4.out.up hb)
  clear hb
  go_wp2_with fail
  refine (tell_any M5.out 5 3000 (am_small (by decide) (by decide))).mono ?_
  rintro e w6 ⟨rfl, hs⟩
  rw [tk3.2.1] at hs
  rw [tk3.1]
  have M6 := Lib.hid hs
  clear hs
  go_wp2_with fail
  refine (M6.out.no 4 4000 (am_small (by decide) (by decide)) tk3.2.2.1 (by decide)).mono ?_
  rintro e w7 ⟨rfl, hb⟩
  have M7 := Lib.hid (M6.out.up hb)
  clear hb
  go_wp2_with fail
  refine (M7.out.no 5 3000 (am_small (by decide) (by decide)) tk3.2.2.2 (by decide)).mono ?_
  rintro e w8 ⟨rfl, hb⟩
  have M8 := Lib.hid (M7.out.up hb)
  clear hb
  go_wp2_with fail
  refine (M8.out.thr 5).mono ?_
  rintro e w9 ⟨rfl, hb⟩
  rw [tk4.1, tk4.2]
  have M9 := Lib.hid (M8.out.up hb)
  clear hb
  go_wp2_with fail
  refine (M9.out.many).mono ?_
  rintro e w10 ⟨rfl, rfl⟩
  go_wp2_with fail
  refine (M9.out.duty (by decide)).mono ?_
  rintro e w11 ⟨a, c, rfl, _, hb⟩
  have M11 := Lib.hid (M9.out.up hb)
  clear hb
  rw [show tD2.val a c = .agg #[.slice a 0 c, .int .i64 0, .int .i64 1, .int .i64 2, .int .i64 10, .int .i64 19] from rfl]
  have hfld : ∀ W : World, (Instr.field 24 (.agg #[.slice a 0 c, .int .i64 0, .int .i64 1, .int .i64 2, .int .i64 10, .int .i64 19]) 4).run Try.prog W = .ok (.int .i64 10) W := fun _ => by kernel_rfl
  go_wp2_with fail
  go_ret
  exact ⟨rfl, up2 B1.out (M11.out.bel P2.out)⟩
end Go.Proofs.Ytlplbgandehkcaa
