/- A journal in memory: Snap. -/
import Derived.Test.YtjffcgimdffkoaaGreatDoorJnM
namespace Go.Proofs.YtjffcgimdffkoaaGreatDoor
open Go.RowKit

theorem Turn.putJ {J p b : Nat} {w w' : World} (h : Turn (fun k => k = J ∨ k = p ∨ k = b) w w') (i : Nat) (v : Value) : Turn (fun k => k = J ∨ k = p ∨ k = b) w (w'.setCell ⟨J, i, none⟩ v) := h.put (a := ⟨J, i, none⟩) (.inl rfl) v
theorem Turn.drewR {F : Nat → Prop} {w w' : World} (h : Turn F w w') : Turn F w w'.drew := ⟨h.os, h.tape, h.output, h.size, h.block⟩
set_option maxRecDepth 100000 in
set_option maxHeartbeats 2000000 in
theorem snap_err (w : World) (J p b h k u : Nat) (t x : ByteArray) (v : Value) (br br' : Bool) (E : Int) (S : SS) (m : Int) (hJ : Has w J 66 (jcs p h k u t v br)) (hh : h ≤ 1) (hE : E ≠ 0)
    (hL : ∀ (W : World) (O M : Nat), Below w.heap.size w W → Has W O 60 (hv p (1 - h) k) → Has W M 101 #[fnV (39, #[.pointer (some ⟨O, 0, none⟩)])] →
      Calls Tryz.prog 35 #[.pointer (some ⟨J, 0, none⟩), .agg (hv p (1 - h) k), .int .i64 0, .string x, .slice (some ⟨M, 0, none⟩) 1 1] W (LayR W J p b h k u t v E S br' m)) :
    Calls Tryz.prog 12 #[.pointer (some ⟨J, 0, none⟩), .string x] w (LayR w J p b h k u t v E S br' m) := by
  have hE0 : (E != 0) = true := by simpa using hE
  have HO := Lib.hid (other_any w p h k hh)
  obtain ⟨g, hg⟩ : ∃ g, g = 1 - h := ⟨_, rfl⟩
  rw [← hg] at HO hL
  have C4 := hJ.jc4
  unfold Jc4 at C4
  obtain ⟨c0, c1, c2, _⟩ := C4
  have HL := Lib.hid hL
  have HJ := Lib.hid hJ
  clear hL hJ hE hg
  unfold hv at HO HL
  go_enter Tryz.func12, Tryz.ntmps12
  go_wp2_with fail
  refine HO.out.mono ?_
  rintro e w1 ⟨rfl, hb1⟩
  have B1 := Lib.hid hb1
  have al1 := (boxed w1 (.cells (hv p g k) 60)).alloc (by simp) (.cells #[fnV (39, #[.pointer (some ⟨w1.heap.size, 0, none⟩)])] 101)
  have hO := (Has.fresh w1 60 (hv p g k)).more (.cells #[fnV (39, #[.pointer (some ⟨w1.heap.size, 0, none⟩)])] 101)
  have hM := Has.fresh (w1.alloc (.cells (hv p g k) 60)) 101 #[fnV (39, #[.pointer (some ⟨w1.heap.size, 0, none⟩)])]
  rw [show (w1.alloc (.cells (hv p g k) 60)).heap.size = w1.heap.size + 1 by simp] at hM
  have HC := Lib.hid (HL.out _ _ _ (lots hb1 al1) hO hM)
  have LL := Lib.hid (lots hb1 al1)
  clear hb1 al1 hO hM c0 c1 c2 HL
  go_wp2_with fail
  refine HC.out.mono ?_
  rintro e w2 ⟨rfl, g1, g2, g3⟩
  have k0 := Lib.hid g1
  have k1 := Lib.hid g2
  have k2 := Lib.hid ((Turn.of _ LL.out).trans g3)
  clear g1 g2 g3
  go_wp2
  go_ret
  exact ⟨rfl, k0.out, k1.out, k2.out⟩

set_option maxRecDepth 100000 in
set_option maxHeartbeats 1000000 in
theorem snap_ok (w : World) (J p b h k u : Nat) (t x : ByteArray) (v : Value) (br : Bool) (S : SS) (m : Int) (hJ : Has w J 66 (jcs p h k u t v br)) (hh : h ≤ 1) (hx : x.size ≤ 40000) (hpb : p < w.heap.size ∧ b < w.heap.size)
    (hL : ∀ (W : World) (O M : Nat), Below w.heap.size w W → Has W O 60 (hv p (1 - h) k) → Has W M 101 #[fnV (39, #[.pointer (some ⟨O, 0, none⟩)])] →
      Calls Tryz.prog 35 #[.pointer (some ⟨J, 0, none⟩), .agg (hv p (1 - h) k), .int .i64 0, .string x, .slice (some ⟨M, 0, none⟩) 1 1] W (LayR W J p b h k u t v 0 S false m)) :
    Calls Tryz.prog 12 #[.pointer (some ⟨J, 0, none⟩), .string x] w (LayR w J p b (1 - h) k (nb x.size) x (.slice none 0 0) 0 S false m) := by
  have HO := Lib.hid (other_any w p h k hh)
  obtain ⟨q, hq⟩ : ∃ q, q = nb x.size := ⟨_, rfl⟩
  have HB : Hid (∀ W : World, Calls Tryz.prog 36 #[.int .i64 (x.size : Int)] W fun e w' => e = .returned (.int .i64 (q : Int)) ∧ W = w') := fun W => by
    have := blk_any x.size W
    rwa [nbI_is hx, ← hq] at this
  rw [← hq]
  obtain ⟨g, hg⟩ : ∃ g, g = 1 - h := ⟨_, rfl⟩
  rw [← hg] at HO hL ⊢
  have C4 := hJ.jc4
  unfold Jc4 at C4
  obtain ⟨c0, c1, c2, _⟩ := C4
  have HL := Lib.hid hL
  have HJ := Lib.hid hJ
  have HP := Lib.hid hpb
  clear hL hJ hg hq hpb
  unfold hv at HO HL
  go_enter Tryz.func12, Tryz.ntmps12
  go_wp2_with fail
  refine HO.out.mono ?_
  rintro e w1 ⟨rfl, hb1⟩
  have B1 := Lib.hid hb1
  have al1 := (boxed w1 (.cells (hv p g k) 60)).alloc (by simp) (.cells #[fnV (39, #[.pointer (some ⟨w1.heap.size, 0, none⟩)])] 101)
  have hO := (Has.fresh w1 60 (hv p g k)).more (.cells #[fnV (39, #[.pointer (some ⟨w1.heap.size, 0, none⟩)])] 101)
  have hM := Has.fresh (w1.alloc (.cells (hv p g k) 60)) 101 #[fnV (39, #[.pointer (some ⟨w1.heap.size, 0, none⟩)])]
  rw [show (w1.alloc (.cells (hv p g k) 60)).heap.size = w1.heap.size + 1 by simp] at hM
  have HC := Lib.hid (HL.out _ _ _ (lots hb1 al1) hO hM)
  have LL := Lib.hid (lots hb1 al1)
  have HOx := Lib.hid hO
  clear hb1 al1 hO hM c0 c1 c2 HL
  go_wp2_with fail
  refine HC.out.mono ?_
  rintro e w2 ⟨rfl, g1, g2, g3⟩
  have ox := g3.has HOx.out (fun z => by
    have a1 := HJ.out.lt
    have a2 := HP.out
    have a3 := B1.out.size
    omega)
  have OX := Lib.hid ox
  obtain ⟨O, hOe⟩ : ∃ O, O = w1.heap.size := ⟨_, rfl⟩
  rw [← hOe] at ox OX ⊢
  have B3 := ox.box3
  unfold Box3 at B3
  obtain ⟨d0, d1, d2⟩ := B3
  have k0 := Lib.hid g1
  have k1 := Lib.hid g2
  have k2 := Lib.hid ((Turn.of _ LL.out).trans g3)
  have e0 : w2.cell? ⟨J, 0, none⟩ = some (.pointer (some ⟨p, 0, none⟩)) := g2.cell 0
  have e1 : w2.cell? ⟨J, 1, none⟩ = some (.int .i64 (h : Int)) := g2.cell 1
  have e2 : w2.cell? ⟨J, 2, none⟩ = some (.int .i64 (k : Int)) := g2.cell 2
  have e3 : w2.cell? ⟨J, 3, none⟩ = some (.int .i64 (u : Int)) := g2.cell 3
  have f0 := g2.free 0
  have f1 := g2.free 1
  have f2 := g2.free 2
  have f3 := g2.free 3
  clear g1 g2 g3 ox hOe HOx
  go_wp2_with fail
  go_region_with (first | (go_at_call 36; ((with_reducible refine (HB.out _).mono ?_); rintro e w3 ⟨rfl, rfl⟩)))
  all_goals
    obtain ⟨W3, hW3⟩ : ∃ W3, W3 = ((((w2.setCell ⟨J, 0, none⟩ (.pointer (some ⟨p, 0, none⟩))).setCell ⟨J, 1, none⟩ (.int .i64 (g : Int))).setCell ⟨J, 2, none⟩ (.int .i64 (k : Int))).setCell ⟨J, 3, none⟩ (.int .i64 (q : Int))).drew := ⟨_, rfl⟩
    rw [← hW3]
    have h3 : Has W3 J 66 (jcs p g k q t v false) := by
      rw [hW3]; exact ((((k1.out.put 0 (.pointer (some ⟨p, 0, none⟩))).put 1 (.int .i64 (g : Int))).put 2 (.int .i64 (k : Int))).put 3 (.int .i64 (q : Int))).drew1
    have hn1 := k0.out.st.nbox k1.out (by decide) (by decide)
    have a3 : At W3 p b S m := by
      rw [hW3]; exact At.drewN (⟨(((k0.out.st.off hn1.1 hn1.2 _).off hn1.1 hn1.2 _).off hn1.1 hn1.2 _).off hn1.1 hn1.2 _, k0.out.fine⟩ : At _ p b S m) 1
    have t3 : Turn (fun k => k = J ∨ k = p ∨ k = b) w W3 := by
      rw [hW3]; exact ((((k2.out.putJ 0 _).putJ 1 _).putJ 2 _).putJ 3 _).drewR
    have c4 : W3.cell? ⟨J, 4, none⟩ = some (.string t) := h3.cell 4
    have c5 : W3.cell? ⟨J, 5, none⟩ = some v := h3.cell 5
    have g4 := h3.free 4
    have g5 := h3.free 5
    have H3 := Lib.hid h3
    have A3 := Lib.hid a3
    have T3 := Lib.hid t3
    have HN := Lib.hid hn1
    clear hW3 h3 a3 t3 hn1 d0 d1 d2 e0 e1 e2 e3 f0 f1 f2 f3
    go_wp2
    go_ret
    have h4 : Has ((W3.setCell ⟨J, 4, none⟩ (.string x)).setCell ⟨J, 5, none⟩ (.slice none 0 0)) J 66 (jcs p g k q x (.slice none 0 0) false) := (H3.out.put 4 _).put 5 _
    exact ⟨rfl, ⟨(A3.out.st.off HN.out.1 HN.out.2 _).off HN.out.1 HN.out.2 _, A3.out.fine⟩, h4, (T3.out.putJ 4 _).putJ 5 _⟩
end Go.Proofs.YtjffcgimdffkoaaGreatDoor
