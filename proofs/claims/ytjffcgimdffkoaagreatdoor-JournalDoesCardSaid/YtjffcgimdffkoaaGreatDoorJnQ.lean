/- Which half counts. -/
import Derived.Test.YtjffcgimdffkoaaGreatDoorJnP
namespace Go.Proofs.YtjffcgimdffkoaaGreatDoor
open Go.RowKit

/-- no half -/
def hv0 : Array Value := #[.pointer none, .int .i64 0, .int .i64 0]
/-- the half that counts, or none -/
def CntR (w : World) (p : Nat) (s : SS) (e : Ending) (w' : World) : Prop :=
  Below w.heap.size w w' ∧ (((s.B 0 = mark0 0 ∨ s.B 0 = mark0 1) ∧ e = .returned (.tuple #[.agg (hv p (if s.B 0 = mark0 0 then 0 else 1) (hlf s.n)), .int .i64 0])) ∨ (s.B 0 ≠ mark0 0 ∧ s.B 0 ≠ mark0 1 ∧ e = .returned (.tuple #[.agg hv0, .int .i64 8])))
structure CntI (w : World) (p b X Y k : Nat) (s : SS) (m : Int) (i : Nat) (wr : World) : Prop where
  at_ : At wr p b s m
  x : ∃ h, (i < 2 → h = i) ∧ h ≤ 1 ∧ Has wr X 60 (hv p h k)
  y : Has wr Y 60 hv0
  bel : Below w.heap.size w wr
  no : ∀ h, h < i → h < 2 → s.B 0 ≠ mark0 h

set_option maxRecDepth 100000 in
set_option maxHeartbeats 2000000 in
theorem counting_any (w : World) (p b : Nat) (s : SS) (m : Int) (hA : At w p b s m) : Calls Tryz.prog 27 #[.pointer (some ⟨p, 0, none⟩)] w (CntR w p s) := by
  have hn := hA.fine.hi
  have hn3 := hA.fine.lo
  obtain ⟨k, hk⟩ : ∃ k, k = hlf s.n := ⟨_, rfl⟩
  obtain ⟨N, hN⟩ : ∃ N, N = s.n := ⟨_, rfl⟩
  have hk2 : ((N : Int) - 1) / 2 = (k : Int) := by rw [hk, hN]; unfold hlf; omega
  obtain ⟨M, hM⟩ : ∃ M, M = s.B 0 := ⟨_, rfl⟩
  have HB : Hid (∀ W : World, At W p b s m → Calls Tryz.prog 46 #[.pointer (some ⟨p, 0, none⟩)] W fun e w' => e = .returned (.int .i64 (N : Int)) ∧ W = w') := fun W q => by rw [hN]; exact blocks_any W p b s q.st
  have HR : Hid (∀ W : World, At W p b s m → Calls Tryz.prog 43 #[.pointer (some ⟨p, 0, none⟩), .int .i64 0] W fun e w' => e = .returned (.tuple #[.string M, .int .i64 0]) ∧ W = w') := fun W q => by rw [hM]; exact q.read (by omega) (by omega)
  have HA := Lib.hid hA
  have Hk := Lib.hid hk
  have HM := Lib.hid hM
  have hN1 : 3 ≤ N := by omega
  have hN2 : N ≤ 4096 := by omega
  clear hA hk hN hM
  go_enter Tryz.func27, Tryz.ntmps27
  go_wp2_with fail
  refine (HB.out _ (HA.out.up (boxed _ _))).mono ?_
  rintro e w' ⟨rfl, rfl⟩
  go_wp2_with fail
  have I0 : CntI w p b (w.heap.size + 1) w.heap.size k s m 0 ((w.alloc (.cells hv0 60)).alloc (.cells (hv p 0 k) 60)) := by
    have hb := (boxed w (.cells hv0 60)).alloc (by simp) (.cells (hv p 0 k) 60)
    have h1 := Has.fresh (w.alloc (.cells hv0 60)) 60 (hv p 0 k)
    rw [show (w.alloc (.cells hv0 60)).heap.size = w.heap.size + 1 by simp] at h1
    exact ⟨HA.out.up hb, ⟨0, fun _ => rfl, by omega, h1⟩, (Has.fresh w 60 hv0).more _, hb, fun h z => absurd z (by omega)⟩
  obtain ⟨W0, hW⟩ : ∃ W0, W0 = (w.alloc (.cells #[.pointer none, .int .i64 0, .int .i64 0] 60)).alloc (.cells #[.pointer (some ⟨p, 0, none⟩), .int .i64 0, .int .i64 (k : Int)] 60) := ⟨_, rfl⟩
  have I0' : CntI w p b (w.heap.size + 1) w.heap.size k s m 0 W0 := by rw [hW]; exact I0
  obtain ⟨X, hX⟩ : ∃ X, X = w.heap.size + 1 := ⟨_, rfl⟩
  obtain ⟨Y, hY⟩ : ∃ Y, Y = w.heap.size := ⟨_, rfl⟩
  have HXY := Lib.hid (show X ≠ Y ∧ w.heap.size ≤ X ∧ w.heap.size ≤ Y by omega)
  rw [← hX, ← hY] at I0'
  rw [← hW, ← hX, ← hY]
  have HI0 := Lib.hid I0'
  clear I0 I0' hW hX hY
  refine (HR.out _ HI0.out.at_).mono ?_
  rintro e w' ⟨rfl, rfl⟩
  go_wp2_with fail
  clear HB HR hk2
  go_loopw [18] (fun vi wr => ∃ i : Nat, i ≤ 2 ∧ vi = .int .i64 (i : Int) ∧ Hid (CntI w p b X Y k s m i wr)) (fun vi _ => 2 - (intOf vi).toNat)
  case atStart => exact ⟨0, by omega, rfl, HI0⟩
  case round =>
    obtain ⟨i, hi, rfl, HI⟩ := hrel
    clear HI0
    by_cases hlt : i < 2
    · obtain ⟨h, h1, h2, h3⟩ := HI.out.x
      obtain rfl : h = i := h1 hlt
      have B3 := h3.box3
      unfold Box3 at B3
      obtain ⟨c0, c1, c2⟩ := B3
      obtain ⟨Z, hZ⟩ : ∃ Z, Z = mark0 h := ⟨_, rfl⟩
      have HH : Hid (∀ W : World, Calls Tryz.prog 47 #[.agg #[.pointer (some ⟨p, 0, none⟩), .int .i64 (h : Int), .int .i64 (k : Int)]] W fun e w' => e = .returned (.string Z) ∧ Below W.heap.size W w') := fun W => by rw [hZ]; exact head_half W p h k h2
      have HZ := Lib.hid hZ
      have H3 := Lib.hid h3
      have H2 := Lib.hid h2
      have y0 : wr.cell? ⟨Y, 0, none⟩ = some (.pointer none) := HI.out.y.cell 0
      have y1 : wr.cell? ⟨Y, 1, none⟩ = some (.int .i64 0) := HI.out.y.cell 1
      have y2 : wr.cell? ⟨Y, 2, none⟩ = some (.int .i64 0) := HI.out.y.cell 2
      by_cases hq : M = Z
      · have hq1 : (M.toList == Z.toList) = true := by rw [strs_eq, decide_eq_true hq]
        have HQ := Lib.hid hq
        clear hq h1 h3 h2 hZ
        go_wp2_with fail
        refine (HH.out _).mono ?_
        rintro e w1 ⟨rfl, hb1⟩
        have k3 := H3.out.up hb1
        have ky := HI.out.y.up hb1
        have B3 := k3.box3
        unfold Box3 at B3
        obtain ⟨d0, d1, d2⟩ := B3
        have z0 : w1.cell? ⟨Y, 0, none⟩ = some (.pointer none) := ky.cell 0
        have z1 : w1.cell? ⟨Y, 1, none⟩ = some (.int .i64 0) := ky.cell 1
        have z2 : w1.cell? ⟨Y, 2, none⟩ = some (.int .i64 0) := ky.cell 2
        have g0 := ky.free 0
        have g1 := ky.free 1
        have g2 := ky.free 2
        have BB := Lib.hid (lots HI.out.bel hb1)
        have KY := Lib.hid ky
        clear hb1 k3 ky c0 c1 c2 y0 y1 y2
        go_wp2
        obtain ⟨W9, hW9⟩ : ∃ W9, W9 = ((w1.setCell ⟨Y, 0, none⟩ (.pointer (some ⟨p, 0, none⟩))).setCell ⟨Y, 1, none⟩ (.int .i64 (h : Int))).setCell ⟨Y, 2, none⟩ (.int .i64 (k : Int)) := ⟨_, rfl⟩
        rw [← hW9]
        have hy : Has W9 Y 60 (hv p h k) := by rw [hW9]; exact ((KY.out.put 0 _).put 1 _).put 2 _
        have hb : Below w.heap.size w W9 := by rw [hW9]; exact ((BB.out.setCell HXY.out.2.2 _).setCell HXY.out.2.2 _).setCell HXY.out.2.2 _
        have r0 : W9.cell? ⟨Y, 0, none⟩ = some (.pointer (some ⟨p, 0, none⟩)) := hy.cell 0
        have r1 : W9.cell? ⟨Y, 1, none⟩ = some (.int .i64 (h : Int)) := hy.cell 1
        have r2 : W9.cell? ⟨Y, 2, none⟩ = some (.int .i64 (k : Int)) := hy.cell 2
        refine bodyPost_ret (v := .tuple #[.agg (hv p h k), .int .i64 0]) (by simp [results, Tryz.results27, go_sem, hv, r0, r1, r2]) rfl ⟨hb, .inl ?_⟩
        have hs0 : s.B 0 = mark0 h := by rw [← HM.out, HQ.out, HZ.out]
        have hcase : h = 0 ∨ h = 1 := by omega
        rcases hcase with rfl | rfl
        · exact ⟨.inl hs0, by rw [if_pos hs0, Hk.out]⟩
        · exact ⟨.inr hs0, by rw [if_neg (by rw [hs0]; exact Ne.symm mark0_ne), Hk.out]⟩
      · have hq1 : (M.toList == Z.toList) = false := by rw [strs_eq, decide_eq_false hq]
        have HQ := Lib.hid hq
        have HO : Hid (∀ W : World, Calls Tryz.prog 38 #[.agg #[.pointer (some ⟨p, 0, none⟩), .int .i64 (h : Int), .int .i64 (k : Int)]] W fun e w' => e = .returned (.agg (hv p (1 - h) k)) ∧ Below W.heap.size W w') := fun W => other_any W p h k h2
        obtain ⟨g, hg⟩ : ∃ g, g = 1 - h := ⟨_, rfl⟩
        rw [← hg] at HO
        have Hg := Lib.hid hg
        have F3 := HI.out.x
        clear hq h1 h3 h2 hZ hg F3
        go_wp2_with fail
        refine (HH.out _).mono ?_
        rintro e w1 ⟨rfl, hb1⟩
        have k3 := H3.out.up hb1
        have B3 := k3.box3
        unfold Box3 at B3
        obtain ⟨d0, d1, d2⟩ := B3
        have B1 := Lib.hid hb1
        clear hb1 k3 c0 c1 c2 y0 y1 y2
        go_wp2_with fail
        unfold hv at HO
        refine (HO.out _).mono ?_
        rintro e w2 ⟨rfl, hb2⟩
        have hb12 := lots B1.out hb2
        have q3 := H3.out.up hb12
        have B3 := q3.box3
        unfold Box3 at B3
        obtain ⟨a0, a1, a2⟩ := B3
        have f0 := q3.free 0
        have f1 := q3.free 1
        have f2 := q3.free 2
        have HN : Hid (CntI w p b X Y k s m (h + 1) (((w2.setCell ⟨X, 0, none⟩ (.pointer (some ⟨p, 0, none⟩))).setCell ⟨X, 1, none⟩ (.int .i64 (g : Int))).setCell ⟨X, 2, none⟩ (.int .i64 (k : Int)))) := by
          have a := HI.out.at_.up hb12
          have hn := a.st.nbox q3 (by decide) (by decide)
          have hx : Has (((w2.setCell ⟨X, 0, none⟩ (.pointer (some ⟨p, 0, none⟩))).setCell ⟨X, 1, none⟩ (.int .i64 (g : Int))).setCell ⟨X, 2, none⟩ (.int .i64 (k : Int))) X 60 (hv p g k) := ((q3.put 0 _).put 1 _).put 2 _
          refine ⟨⟨((a.st.off hn.1 hn.2 _).off hn.1 hn.2 _).off hn.1 hn.2 _, a.fine⟩, ⟨g, fun z => ?_, by have := Hg.out; omega, hx⟩, ?_, ?_, ?_⟩
          · have := Hg.out; omega
          · have hxy := Ne.symm HXY.out.1
            exact (((HI.out.y.up hb12).off (p := ⟨X, 0, none⟩) hxy _).off (p := ⟨X, 1, none⟩) hxy _).off (p := ⟨X, 2, none⟩) hxy _
          · exact (((lots HI.out.bel hb12).setCell HXY.out.2.1 _).setCell HXY.out.2.1 _).setCell HXY.out.2.1 _
          · intro j hj hj2
            by_cases e : j = h
            · subst e
              intro e
              exact HQ.out (by rw [HM.out, HZ.out, e])
            · exact HI.out.no j (by omega) hj2
        clear hb2 hb12 q3 d0 d1 d2 HI H3
        go_wp2
        go_roundw
        case rel => exact ⟨h + 1, by omega, by go_num, HN⟩
        case measure => simp [intOf]; omega
    · obtain rfl : i = 2 := by omega
      have y0 : wr.cell? ⟨Y, 0, none⟩ = some (.pointer none) := HI.out.y.cell 0
      have y1 : wr.cell? ⟨Y, 1, none⟩ = some (.int .i64 0) := HI.out.y.cell 1
      have y2 : wr.cell? ⟨Y, 2, none⟩ = some (.int .i64 0) := HI.out.y.cell 2
      have f0 := HI.out.y.free 0
      have f1 := HI.out.y.free 1
      have f2 := HI.out.y.free 2
      go_wp2
      obtain ⟨W9, hW9⟩ : ∃ W9, W9 = ((wr.setCell ⟨Y, 0, none⟩ (.pointer none)).setCell ⟨Y, 1, none⟩ (.int .i64 0)).setCell ⟨Y, 2, none⟩ (.int .i64 0) := ⟨_, rfl⟩
      rw [← hW9]
      have hy : Has W9 Y 60 hv0 := by rw [hW9]; exact ((HI.out.y.put 0 _).put 1 _).put 2 _
      have hb : Below w.heap.size w W9 := by rw [hW9]; exact ((HI.out.bel.setCell HXY.out.2.2 _).setCell HXY.out.2.2 _).setCell HXY.out.2.2 _
      have r0 : W9.cell? ⟨Y, 0, none⟩ = some (.pointer none) := hy.cell 0
      have r1 : W9.cell? ⟨Y, 1, none⟩ = some (.int .i64 0) := hy.cell 1
      have r2 : W9.cell? ⟨Y, 2, none⟩ = some (.int .i64 0) := hy.cell 2
      exact bodyPost_ret (v := .tuple #[.agg hv0, .int .i64 8]) (by simp [results, Tryz.results27, go_sem, hv0, r0, r1, r2]) rfl ⟨hb, .inr ⟨HI.out.no 0 (by omega) (by omega), HI.out.no 1 (by omega) (by omega), rfl⟩⟩
end Go.Proofs.YtjffcgimdffkoaaGreatDoor
