/- Halves of a store: end, count. -/
import Derived.Test.YtjffcgimdffkoaaGreatDoorJnC
import Derived.Test.YtjffcgimdffkoaaGreatDoorRcH
namespace Go.Proofs.YtjffcgimdffkoaaGreatDoor
open Go.RowKit

theorem hread_one (w : World) (p b h n a : Nat) (s : SS) (m : Int) (hA : At w p b s m) (hh : h ≤ 1) (hn : n ≤ 4096) (ha : a ≤ 10000) (x : ByteArray) (hx : x = s.B (1 + h * n + a)) (hf : 1 + h * n + a < s.n) :
    Calls Tryz.prog 54 #[.agg (hv p h n), .int .i64 (a : Int), .int .i64 1] w fun e w' =>
      e = .returned (.slice (some ⟨w.heap.size + 1, 0, none⟩) 1 1) ∧ w'.cell? ⟨w.heap.size + 1, 0, none⟩ = some (.string x) ∧ Below w.heap.size w w' := by
  refine (hread_any w p b h n a 1 s m hA hh hn ha (by omega) (by omega)).mono ?_
  rintro e w' ⟨rfl, h1, h2⟩
  exact ⟨rfl, by have := h1.strs 0 _ rfl; rw [hx]; exact this, h2⟩
theorem hwrite_one (w : World) (p b h n a g o c : Nat) (x : ByteArray) (s : SS) (m : Int) (hA : At w p b s m) (hS : w.cell? ⟨g, o, none⟩ = some (.string x)) (hp : g ≠ p) (hb : g ≠ b)
    (hh : h ≤ 1) (hn : n ≤ 4096) (ha : a ≤ 10000) (hm : m ≤ 900000) :
    Calls Tryz.prog 61 #[.agg (hv p h n), .int .i64 (a : Int), .slice (some ⟨g, o, none⟩) 1 c] w fun e w' =>
      e = .returned (.int .i64 (runW s [(1 + h * n + a, x)]).2) ∧ At w' p b (runW s [(1 + h * n + a, x)]).1 (m + 1) ∧ But p b w w' := by
  have hs : Strs w g o [x] := fun j y e => by
    cases j with
    | zero => simp at e; subst e; exact hS
    | succ j => simp at e
  exact hwrite_any w p b h n a g o c [x] s m hA hs hp hb hh hn ha (by simp) hm

/-- the write that lets no record begin at block k, in a half up to e -/
def endW (B : Nat → ByteArray) (k e : Nat) : List (Nat × ByteArray) := if k < e ∧ B k ≠ zs 64 then [(k, zs 64)] else []
theorem zs_str : zs 64 = str (List.replicate 64 0) := by
  apply ByteArray.ext
  exact (List.toArray_replicate (n := 64) (v := (0 : UInt8))).symm
theorem At.lt {w : World} {p b : Nat} {s : SS} {m : Int} (h : At w p b s m) : p < w.heap.size ∧ b < w.heap.size := by
  obtain ⟨cs, hc, _⟩ := h.st.row
  exact ⟨h.st.head.lt, hc.lt⟩
theorem At.fine_more {w : World} {p b : Nat} {s : SS} {m k : Int} (h : At w p b s m) (e : m ≤ k) : At w p b s k := ⟨h.st, h.fine.more e⟩

set_option maxRecDepth 100000 in
set_option maxHeartbeats 4000000 in
theorem end_any (w : World) (p b h n a : Nat) (s : SS) (m : Int) (hA : At w p b s m) (hh : h ≤ 1) (hn : n ≤ 4096) (ha : a ≤ n) (hf : 1 + h * n + n ≤ s.n) (hm : m ≤ 900000) :
    Calls Tryz.prog 59 #[.agg (hv p h n), .int .i64 (a : Int)] w fun e w' =>
      e = .returned (.int .i64 (runW s (endW s.B (1 + h * n + a) (1 + h * n + n))).2) ∧ At w' p b (runW s (endW s.B (1 + h * n + a) (1 + h * n + n))).1 (m + 1) ∧ But p b w w' := by
  obtain ⟨Z, hZ⟩ : ∃ Z, Z = zs 64 := ⟨_, rfl⟩
  have hrep : ∀ W : World, Calls Tryz.prog 52 #[.string ⟨#[0]⟩, .int .i64 64] W fun e w' => e = .returned (.string Z) ∧ Below W.heap.size W w' := fun W => by rw [hZ, zs_str]; exact rep_any W 64 (by omega) 64 rfl
  have HR := Lib.hid hrep
  have HZ := Lib.hid hZ
  clear hrep hZ
  have HA := Lib.hid hA
  clear hA
  by_cases hlt : a < n
  · have hne : ((a : Int) == (n : Int)) = false := by simp; omega
    obtain ⟨k, hk⟩ : ∃ k, k = 1 + h * n + a := ⟨_, rfl⟩
    obtain ⟨x, hx⟩ : ∃ x, x = s.B k := ⟨_, rfl⟩
    have hkn : k < s.n := by omega
    have Hk := Lib.hid hk
    have Hx := Lib.hid hx
    have HL := Lib.hid (show 1 + h * n + a < 1 + h * n + n by omega)
    by_cases hq : x = Z
    · have hE : Hid (endW s.B (1 + h * n + a) (1 + h * n + n) = []) := by
        show endW _ _ _ = []
        unfold endW
        rw [if_neg]
        rintro ⟨_, z⟩
        exact z (by rw [← hk, ← hx, hq, HZ.out])
      have hq1 : (x.toList == Z.toList) = true := by rw [strs_eq, decide_eq_true hq]
      clear hq hk hx
      unfold hv
      go_enter Tryz.func59, Tryz.ntmps59
      go_wp2_with fail
      refine (HR.out _).mono ?_
      rintro e w1 ⟨rfl, hb1⟩
      have hb0 := Lib.hid (lots (boxed w (.cells #[.pointer (some ⟨p, 0, none⟩), .int .i64 (h : Int), .int .i64 (n : Int)] 60)) hb1)
      have B3 := ((Has.fresh w 60 (hv p h n)).up hb1).box3
      unfold Box3 at B3
      obtain ⟨c0, c1, c2⟩ := B3
      have hz : w.heap.size < w1.heap.size := by have := hb1.size; simp at this; omega
      clear hb1
      go_wp2_with fail
      refine (hread_one w1 p b h n a s m (HA.out.up hb0.out) (by omega) (by omega) (by omega) x (by rw [Hx.out, Hk.out]) (by have := Hk.out; omega)).mono ?_
      rintro e w2 ⟨rfl, d0, hb2⟩
      have hB := Lib.hid (lots hb0.out hb2)
      clear hb2
      go_wp2
      go_ret
      rw [hE.out]
      exact ⟨rfl, (HA.out.up hB.out).fine_more (by omega), But.of p b hB.out⟩
    · have hE : Hid (endW s.B (1 + h * n + a) (1 + h * n + n) = [(1 + h * n + a, Z)]) := by
        show endW _ _ _ = _
        unfold endW
        rw [if_pos, HZ.out]
        refine ⟨HL.out, fun z => ?_⟩
        exact hq (by rw [hx, hk, z, HZ.out])
      have hq1 : (x.toList == Z.toList) = false := by rw [strs_eq, decide_eq_false hq]
      clear hq hk hx
      unfold hv
      go_enter Tryz.func59, Tryz.ntmps59
      go_wp2_with fail
      refine (HR.out _).mono ?_
      rintro e w1 ⟨rfl, hb1⟩
      have hb0 := Lib.hid (lots (boxed w (.cells #[.pointer (some ⟨p, 0, none⟩), .int .i64 (h : Int), .int .i64 (n : Int)] 60)) hb1)
      have HX := Lib.hid ((Has.fresh w 60 (hv p h n)).up hb1)
      have B3 := HX.out.box3
      unfold Box3 at B3
      obtain ⟨c0, c1, c2⟩ := B3
      have hz : w.heap.size < w1.heap.size := by have := hb1.size; simp at this; omega
      clear hb1
      go_wp2_with fail
      refine (hread_one w1 p b h n a s m (HA.out.up hb0.out) (by omega) (by omega) (by omega) x (by rw [Hx.out, Hk.out]) (by have := Hk.out; omega)).mono ?_
      rintro e w2 ⟨rfl, d0, hb2⟩
      have hB := Lib.hid (lots hb0.out hb2)
      have B3 := (HX.out.up hb2).box3
      unfold Box3 at B3
      obtain ⟨e0, e1, e2⟩ := B3
      clear hb2
      go_wp2_with fail
      have hal := Lib.hid (boxed w2 (.cells #[.string Z] 9))
      have hBa := Lib.hid (lots hB.out hal.out)
      have hlt2 := Lib.hid (HA.out.up hB.out).lt
      have hcell : (w2.alloc (.cells #[.string Z] 9)).cell? ⟨w2.heap.size, 0, none⟩ = some (.string Z) := (Has.fresh w2 9 #[.string Z]).cell 0
      have hCell := Lib.hid hcell
      clear hcell
      refine (hwrite_one _ p b h n a w2.heap.size 0 1 Z s m (HA.out.up hBa.out) hCell.out (by have := hlt2.out; omega) (by have := hlt2.out; omega) (by omega) (by omega) (by omega) (by omega)).mono ?_
      rintro e w3 ⟨rfl, hA3, hB3⟩
      have HA3 := Lib.hid hA3
      have HB3 := Lib.hid hB3
      clear hA3 hB3
      go_wp2
      go_ret
      rw [hE.out]
      exact ⟨rfl, HA3.out, (But.of p b hBa.out).trans HB3.out⟩
  · have hane : a = n := by omega
    have hne : ((a : Int) == (n : Int)) = true := by simp; omega
    have hE : Hid (endW s.B (1 + h * n + a) (1 + h * n + n) = []) := by
      show endW _ _ _ = []
      unfold endW
      rw [if_neg]
      rintro ⟨z, _⟩
      omega
    clear hane
    unfold hv
    go_enter Tryz.func59, Tryz.ntmps59
    go_wp2_with fail
    refine (HR.out _).mono ?_
    rintro e w1 ⟨rfl, hb1⟩
    have hb0 := Lib.hid (lots (boxed w (.cells #[.pointer (some ⟨p, 0, none⟩), .int .i64 (h : Int), .int .i64 (n : Int)] 60)) hb1)
    have B3 := ((Has.fresh w 60 (hv p h n)).up hb1).box3
    unfold Box3 at B3
    obtain ⟨c0, c1, c2⟩ := B3
    clear hb1
    go_wp2
    go_ret
    rw [hE.out]
    exact ⟨rfl, (HA.out.up hb0.out).fine_more (by omega), But.of p b hb0.out⟩

set_option maxRecDepth 100000 in
set_option maxHeartbeats 4000000 in
theorem count_any (w : World) (p b h n : Nat) (s : SS) (m : Int) (hA : At w p b s m) (hh : h ≤ 1) (hm : m ≤ 900000) :
    Calls Tryz.prog 40 #[.agg (hv p h n)] w fun e w' => e = .returned (.int .i64 (runW s [(0, mark0 h)]).2) ∧ At w' p b (runW s [(0, mark0 h)]).1 (m + 1) ∧ But p b w w' := by
  have H0 : Hs w (w.alloc (.cells (hv p h n) 60)) p b w.heap.size h n s m := ⟨hA.up (boxed _ _), Has.fresh w 60 (hv p h n), But.of p b (boxed _ _)⟩
  have HH : Hid (∀ W : World, Calls Tryz.prog 47 #[.agg #[.pointer (some ⟨p, 0, none⟩), .int .i64 (h : Int), .int .i64 (n : Int)]] W fun e w' => e = .returned (.string (mark0 h)) ∧ Below W.heap.size W w') := fun W => head_half W p h n hh
  obtain ⟨M, hM⟩ : ∃ M, M = mark0 h := ⟨_, rfl⟩
  rw [← hM] at HH ⊢
  rw [runW_one]
  obtain ⟨E, hE⟩ : ∃ E, E = wrE s ((0 : Nat) : Int) M := ⟨_, rfl⟩
  rw [← hE]
  unfold hv at *
  obtain ⟨W0, hW⟩ : ∃ W0, W0 = w.alloc (.cells #[.pointer (some ⟨p, 0, none⟩), .int .i64 (h : Int), .int .i64 (n : Int)] 60) := ⟨_, rfl⟩
  obtain ⟨X, hX⟩ : ∃ X, X = w.heap.size := ⟨_, rfl⟩
  rw [← hW, ← hX] at H0
  have H1 := Lib.hid H0
  have HW := Lib.hid hW
  have HX := Lib.hid hX
  have HE := Lib.hid hE
  clear H0 hA hW hX hM hE
  go_enter Tryz.func40, Tryz.ntmps40
  go_wp2_with fail
  rw [← HW.out, ← HX.out]
  have B3 := H1.out.box3
  unfold Box3 at B3
  obtain ⟨c0, c1, c2⟩ := B3
  go_region_held3 (fun w' => w'.cell? ⟨X, 0, none⟩ = some (.pointer (some ⟨p, 0, none⟩)) ∧ w'.cell? ⟨X, 1, none⟩ = some (.int .i64 (h : Int)) ∧ w'.cell? ⟨X, 2, none⟩ = some (.int .i64 (n : Int)))
    ((change Box3 _ X p h n; with_reducible (first | exact H1.out.drew.box3 | exact k1.out.box3 | exact k2.out.box3)))
    (first | (go_at_call 47; ((with_reducible refine (HH.out _).mono ?_); rintro e w1 ⟨rfl, g1⟩; have k1 := Lib.hid (H1.out.drew.up g1); clear g1)) | (go_at_call 16; ((with_reducible refine (k1.out.write (by omega) 0 M).mono ?_); rintro e w2 ⟨rfl, g2, g3⟩; have k2 := Lib.hid g2; clear g2 g3)))
  all_goals
    go_wp2
    go_ret
    exact ⟨by rw [HE.out]; rfl, k2.out.at_, k2.out.but⟩
end Go.Proofs.YtjffcgimdffkoaaGreatDoor
