/- Duty; New, written out; awake. -/
import Derived.Laws.AppendOwn
import Derived.Test.YtobdcogaphkogaaDnE
import Derived.Test.YtobdcogaphkogaaBoMem
namespace Go.Proofs.Ytobdcogaphkogaa
open Go.RowKit

section
variable {w : World} {B p : Nat} {d : Dt} {E : List Tl} {la : Option Addr} {lc : Nat} {tv : Value}
set_option maxRecDepth 100000 in
set_option maxHeartbeats 2000000 in
theorem duty_any (h : TgX w B p d E la lc tv) (h2 : d.ls.length ≤ 17592186044416) : Calls Try.prog 23 #[.pointer (some ⟨p, 0, none⟩)] w (CopR14 w d) := by
  have hcp := fun (W : World) (q : Below w.heap.size w W) => copied_any d la lc W h2 (h.lines.1.up q) h.lines.2
  have hh := h.has
  unfold CopR14 at hcp ⊢
  obtain ⟨ls, al, un, me, fi, la2⟩ := d
  unfold Dt.val at hcp ⊢
  simp only at hcp hh ⊢
  obtain ⟨n, hn⟩ : ∃ n, n = ls.length := ⟨_, rfl⟩
  rw [← hn] at hcp hh ⊢
  have c0 := hh.cell 0
  have c1 := hh.cell 1
  have c2 := hh.cell 2
  have c3 := hh.cell 3
  have c4 := hh.cell 4
  have c5 := hh.cell 5
  simp at c0 c1 c2 c3 c4 c5
  have HC := Lib.hid hcp
  have hlt := hh.lt
  clear hcp hh h h2 hn
  go_enter Try.func23, Try.ntmps23
  go_wp2_with fail
  have HY := Lib.hid (Has.fresh w 24 #[.slice none 0 0, .int .i64 0, .int .i64 0, .int .i64 0, .int .i64 0, .int .i64 0])
  refine (HC.out _ (boxed _ _)).mono ?_
  rintro e w3 ⟨a', c', rfl, hown, hb⟩
  have hy := HY.out.up hb
  have yf0 := hy.free 0
  have yf1 := hy.free 1
  have yf2 := hy.free 2
  have yf3 := hy.free 3
  have yf4 := hy.free 4
  have yf5 := hy.free 5
  have y0 := hy.cell 0
  have y1 := hy.cell 1
  have y2 := hy.cell 2
  have y3 := hy.cell 3
  have y4 := hy.cell 4
  have y5 := hy.cell 5
  have HY3 := Lib.hid hy
  have HO := Lib.hid hown
  have HB := Lib.hid (up2 (boxed _ _) hb)
  clear hy hown hb c0 c1 c2 c3 c4 c5 hlt
  simp at y0 y1 y2 y3 y4 y5
  go_wp2_with fail
  obtain ⟨Wf, hWf⟩ : ∃ Wf, Wf = put6 w3 w.heap.size (.slice a' n c') (.int .i64 al) (.int .i64 un) (.int .i64 me) (.int .i64 fi) (.int .i64 la2) := ⟨_, rfl⟩
  have g2 : w3.grownBy Wf (some w.heap.size) := by rw [hWf]; exact put6_grown _ _ _ _ _ _ _ _
  have hf : Has Wf w.heap.size 24 #[.slice a' n c', .int .i64 al, .int .i64 un, .int .i64 me, .int .i64 fi, .int .i64 la2] := by rw [hWf]; exact put6_has HY3.out _ _ _ _ _ _
  have hof := own_beside HO.out HY3.out (by decide) g2
  have r0 := hf.cell 0
  have r1 := hf.cell 1
  have r2 := hf.cell 2
  have r3 := hf.cell 3
  have r4 := hf.cell 4
  have r5 := hf.cell 5
  have hbf := HB.out.grown g2 HB.out.size (fun j hj => by injection hj with hj; omega)
  unfold put6 at hWf
  rw [← hWf]
  simp at r0 r1 r2 r3 r4 r5
  exact bodyPost_ret (v := .agg #[.slice a' n c', .int .i64 al, .int .i64 un, .int .i64 me, .int .i64 fi, .int .i64 la2]) (by simp [results, Try.results23, go_sem, r0, r1, r2, r3, r4, r5]) rfl ⟨a', c', rfl, hof, hbf⟩
/-- what isn't told leaves all as it was -/
def TnoR (w : World) (X : Int) (e : Ending) (w' : World) : Prop := e = .returned (.int .i64 X) ∧ Below w.heap.size w w'
set_option maxRecDepth 100000 in
set_option maxHeartbeats 1000000 in
theorem told_no (h : TgX w B p d E la lc tv) (day n : Int) (hn : Am n) {X : Int} (hX : telE d.me E day n = X) (h0 : X ≠ 0) : Calls Try.prog 25 #[.pointer (some ⟨p, 0, none⟩), .int .i64 day, .int .i64 n] w (TnoR w X) := by
  unfold TnoR
  have HC := Lib.hid (check_any14 h day n hn)
  rw [hX] at HC
  have q' : (X != 0) = true := by simpa using h0
  clear h hX hn h0
  go_enter Try.func25, Try.ntmps25
  go_wp2_with fail
  refine HC.out.mono ?_
  rintro e w1 ⟨rfl, hb⟩
  have HB := Lib.hid hb
  clear hb
  go_wp2_with fail
  go_ret
  exact ⟨rfl, HB.out⟩
end
section
variable {w0 w : World} {p : Nat} {d : Dt} {E : List Tl}
theorem Tg.thr (h : Tg w0 w p d E) (day : Int) : Calls Try.prog 34 #[.pointer (some ⟨p, 0, none⟩), .int .i64 day] w (ThrR w d E day) := by
  obtain ⟨⟨la, lc, tv, hx⟩, _⟩ := h; exact thr_any hx day
theorem Tg.no (h : Tg w0 w p d E) (day n : Int) (hn : Am n) {X : Int} (hX : telE d.me E day n = X) (h0 : X ≠ 0) : Calls Try.prog 25 #[.pointer (some ⟨p, 0, none⟩), .int .i64 day, .int .i64 n] w (TnoR w X) := by
  obtain ⟨⟨la, lc, tv, hx⟩, _⟩ := h; exact told_no hx day n hn hX h0
theorem Tg.duty (h : Tg w0 w p d E) (h2 : d.ls.length ≤ 17592186044416) : Calls Try.prog 23 #[.pointer (some ⟨p, 0, none⟩)] w (CopR14 w d) := by
  obtain ⟨⟨la, lc, tv, hx⟩, _⟩ := h; exact duty_any hx h2
end
def tD1 : Dt := ⟨[], 0, 1, 0, 10, 19⟩
def tD2 : Dt := ⟨[], 0, 1, 2, 10, 19⟩
def tD3 : Dt := ⟨[], 0, 0, 0, 1, 1⟩
def tE2 : List Tl := [(5, 3000)]
theorem tk1 : dtB tD1 = true ∧ dtB tD2 = true ∧ dtB tD3 = false := ⟨rfl, rfl, rfl⟩
theorem tk2 : thrV tD1 [] 15 = 6 ∧ thrW tD1 = 10 ∧ telE tD1.me [] 5 1 = 1 := ⟨rfl, rfl, rfl⟩
theorem tk3 : telE tD2.me [] 5 3000 = 0 ∧ telS tD2.me [] 5 3000 = tE2 ∧ telE tD2.me tE2 4 4000 = 11 ∧ telE tD2.me tE2 5 3000 = 6 := ⟨rfl, rfl, rfl, rfl⟩
theorem tk4 : thrV tD2 tE2 5 = 3000 ∧ thrW tD2 = 10000 := ⟨rfl, rfl⟩
end Go.Proofs.Ytobdcogaphkogaa

namespace Go.Proofs.Ytobdcogaphkogaa
open Go.RowKit

/-- of the blocks that were there, none but these has turned -/
structure Kp (O : Nat → Prop) (w w' : World) : Prop where
  os : w'.os = w.os
  tape : w'.tape = w.tape
  output : w'.output = w.output
  size : w.heap.size ≤ w'.heap.size
  block : ∀ b, b < w.heap.size → ¬ O b → w'.heap[b]? = w.heap[b]?
theorem Kp.of {O : Nat → Prop} {w w' : World} (h : Below w.heap.size w w') : Kp O w w' := ⟨h.os, h.tape, h.output, h.size, fun b hb _ => h.block b hb⟩
theorem Kp.refl (O : Nat → Prop) (w : World) : Kp O w w := ⟨rfl, rfl, rfl, Nat.le_refl _, fun _ _ _ => rfl⟩
theorem Kp.trans {O O' : Nat → Prop} {w w1 w2 : World} (h : Kp O w w1) (k : Kp O' w1 w2) (hs : ∀ b, O' b → O b ∨ w.heap.size ≤ b) : Kp O w w2 :=
  ⟨k.os.trans h.os, k.tape.trans h.tape, k.output.trans h.output, Nat.le_trans h.size k.size, fun b hb hn =>
    (k.block b (Nat.lt_of_lt_of_le hb h.size) (fun q => (hs b q).elim hn (fun z => by omega))).trans (h.block b hb hn)⟩
theorem Kp.below {O : Nat → Prop} {w w' : World} {B : Nat} (h : Kp O w w') (hB : B ≤ w.heap.size) (hO : ∀ b, O b → B ≤ b) : Below B w w' :=
  ⟨h.os, h.tape, h.output, h.size, fun b hb => h.block b (by omega) (fun q => by have := hO b q; omega)⟩
theorem Kp.grown {O : Nat → Prop} {w w' : World} {row : Option Nat} (h : w.grownBy w' row) (hr : ∀ j, row = some j → O j ∨ w.heap.size ≤ j) : Kp O w w' :=
  ⟨h.os, h.tape, h.output, h.size, fun b hb hn => h.block b hb (fun e => (hr b e.symm).elim hn (fun z => by omega))⟩
theorem Kp.set {O : Nat → Prop} (w : World) (a : Addr) (v : Value) (hO : O a.block) : Kp O w (w.setCell a v) :=
  ⟨rfl, rfl, rfl, by simp [World.setCell], fun b _ hn => Below.heap_setCell w a v b (fun e => hn (e ▸ hO))⟩
/-- these, and all new ones -/
abbrev Nw (O : Nat → Prop) (w w' : World) : Nat → Prop := fun b => O b ∨ (w.heap.size ≤ b ∧ b < w'.heap.size)
theorem Kp.has {O : Nat → Prop} {w w' : World} (h : Kp O w w') {g T : Nat} {cs : Array Value} (hh : Has w g T cs) (hn : ¬ O g) : Has w' g T cs :=
  (h.block g hh.lt hn).trans hh
end Go.Proofs.Ytobdcogaphkogaa
