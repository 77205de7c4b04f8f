/- The program's net: below, sides, plus, Sides. -/
import Derived.Test.YtiaocahcdbikhaaNtA
namespace Go.Proofs.Ytiaocahcdbikhaa
open Go.RowKit

theorem tellV17 {v : Int} (h : Am v) : tellV v = v := by unfold Am at h; unfold tellV; rw [if_pos (by omega)]
theorem tellE17 {v : Int} (h : Am v) : tellE v = 0 := by unfold Am at h; unfold tellE; rw [if_pos (by omega)]
set_option maxRecDepth 100000 in
set_option maxHeartbeats 2000000 in
theorem ntbelow_any (b r : Int) (w : World) : Calls Try.prog 16 #[.agg #[.int .i64 b, .int .i64 r]] w fun e w' => e = .returned (.bool (decide (sidE b r = 1))) ∧ Below w.heap.size w w' := by
  go_enter Try.func16, Try.ntmps16
  by_cases q1 : b < 0
  · have e0 : decide (sidE b r = 1) = true := by unfold sidE; rw [if_pos (.inl q1)]; rfl
    rw [e0]
    clear e0
    go_wp2_with fail
    go_ret
    exact ⟨rfl, boxed _ _⟩
  · by_cases q2 : r < 0
    · have e0 : decide (sidE b r = 1) = true := by unfold sidE; rw [if_pos (.inr q2)]; rfl
      rw [e0]
      clear e0
      go_wp2_with fail
      go_ret
      exact ⟨rfl, boxed _ _⟩
    · have e0 : decide (sidE b r = 1) = false := by unfold sidE; rw [if_neg (by omega)]; rfl
      rw [e0]
      clear e0
      go_wp2_with fail
      go_ret
      exact ⟨rfl, boxed _ _⟩
set_option maxRecDepth 100000 in
set_option maxHeartbeats 2000000 in
theorem ntsides_any (b r : Int) (w : World) (hb : 0 ≤ b) (hb1 : b ≤ 9223372036854775807) (hr : 0 ≤ r) (hr1 : r ≤ 9223372036854775807) : Calls Try.prog 17 #[.agg #[.int .i64 b, .int .i64 r]] w fun e w' => e = .returned (.tuple #[.int .i64 (liaV b r), .int .i64 (assV b r)]) ∧ Below w.heap.size w w' := by
  have H1 := Lib.hid (fun (W : World) => less_calls b r W (by omega) hb1 (by omega) hr1)
  have H2 := Lib.hid (fun (W : World) => less_calls r b W (by omega) hr1 (by omega) hb1)
  rw [tellV17 (by unfold Am; omega), tellE17 (by unfold Am; omega)] at H1 H2
  have hX := Lib.hid (Has.fresh w 43 #[.int .i64 b, .int .i64 r])
  obtain ⟨W0, hW0⟩ : ∃ W0, W0 = w.alloc (.cells #[.int .i64 b, .int .i64 r] 43) := ⟨_, rfl⟩
  have HB0 : Hid (Below w.heap.size w W0) := by rw [hW0]; exact Lib.hid (boxed _ _)
  rw [← hW0] at hX
  have e1 : liaV b r = max (b - r) 0 := by unfold liaV; split <;> omega
  have e2 : assV b r = max (r - b) 0 := by unfold assV; split <;> omega
  rw [e1, e2]
  clear e1 e2 hb hb1 hr hr1
  go_enter Try.func17, Try.ntmps17
  go_wp2_with fail
  refine (H1.out _).mono ?_
  rintro e w1 ⟨rfl, hb⟩
  rw [← hW0] at hb
  have hx1 := hX.out.up hb
  have B1 := Lib.hid (up2 HB0.out hb)
  have x0 := hx1.cell 0
  have x1 := hx1.cell 1
  simp at x0 x1
  clear hb hx1 hW0
  go_wp2_with fail
  refine (H2.out _).mono ?_
  rintro e w2 ⟨rfl, hb⟩
  have B2 := Lib.hid (up2 B1.out hb)
  clear hb x0 x1
  go_wp2_with fail
  go_ret2
  exact ⟨rfl, B2.out⟩
theorem sidE_le (b r : Int) : sidE b r = 0 ∨ sidE b r = 1 := by unfold sidE; split <;> simp
theorem sidE_in {b r : Int} (h : sidE b r = 0) : 0 ≤ b ∧ 0 ≤ r := by
  unfold sidE at h
  split at h
  · cases h
  · omega
set_option maxRecDepth 100000 in
set_option maxHeartbeats 2000000 in
theorem ntSides_any (b r : Int) (w : World) (hb : Am b) (hr : Am r) : Calls Try.prog 8 #[.int .i64 b, .int .i64 r] w fun e w' => e = .returned (.tuple #[.int .i64 (sidL b r), .int .i64 (sidA b r), .int .i64 (sidE b r)]) ∧ Below w.heap.size w w' := by
  have HBel := Lib.hid (fun (W : World) => ntbelow_any b r W)
  have hX := Lib.hid (Has.fresh w 43 #[.int .i64 b, .int .i64 r])
  obtain ⟨W0, hW0⟩ : ∃ W0, W0 = w.alloc (.cells #[.int .i64 b, .int .i64 r] 43) := ⟨_, rfl⟩
  have HB0 : Hid (Below w.heap.size w W0) := by rw [hW0]; exact Lib.hid (boxed _ _)
  rw [← hW0] at hX
  unfold sidL sidA
  rcases sidE_le b r with q | q
  · have h0 := sidE_in q
    rw [if_pos q, if_pos q, q]
    rw [q] at HBel
    have HS := Lib.hid (fun (W : World) => ntsides_any b r W h0.1 hb.2 h0.2 hr.2)
    rw [show decide ((0 : Int) = 1) = false by decide] at HBel
    generalize liaV b r = lv at HS ⊢
    generalize assV b r = av at HS ⊢
    clear q h0 hb hr
    go_enter Try.func8, Try.ntmps8
    go_wp2_with fail
    refine (HBel.out _).mono ?_
    rintro e w1 ⟨rfl, hb⟩
    rw [← hW0] at hb
    have hx1 := hX.out.up hb
    have B1 := Lib.hid (up2 HB0.out hb)
    have x0 := hx1.cell 0
    have x1 := hx1.cell 1
    simp at x0 x1
    clear hb hx1 hW0
    go_wp2_with fail
    refine (HS.out _).mono ?_
    rintro e w2 ⟨rfl, hb⟩
    have B2 := Lib.hid (up2 B1.out hb)
    clear hb x0 x1
    go_wp2_with fail
    exact bodyPost_ret (v := .tuple #[.int .i64 lv, .int .i64 av, .int .i64 0]) (by simp [results, Try.results8, go_sem]) rfl ⟨rfl, B2.out⟩
  · rw [q, if_neg (by decide), if_neg (by decide)]
    rw [q] at HBel
    rw [show decide ((1 : Int) = 1) = true by decide] at HBel
    clear q hb hr
    go_enter Try.func8, Try.ntmps8
    go_wp2_with fail
    refine (HBel.out _).mono ?_
    rintro e w1 ⟨rfl, hb⟩
    rw [← hW0] at hb
    have B1 := Lib.hid (up2 HB0.out hb)
    clear hb hW0
    go_wp2_with fail
    exact bodyPost_ret (v := .tuple #[.int .i64 0, .int .i64 0, .int .i64 1]) (by simp [results, Try.results8, go_sem]) rfl ⟨rfl, B1.out⟩
/-- sums that are so much more, or why they are none -/
def plW (b r x y : Int) : Value := if tellE (b + x) = 0 ∧ tellE (r + y) = 0 then .agg #[.int .i64 (b + x), .int .i64 (r + y)] else .agg #[.int .i64 0, .int .i64 0]
def plF (b r x y : Int) : Int := if tellE (b + x) = 0 ∧ tellE (r + y) = 0 then 0 else 3
theorem tellE_or (v : Int) : tellE v = 0 ∧ tellV v = v ∨ tellE v = 3 := by
  unfold tellE tellV; split <;> simp
set_option maxRecDepth 100000 in
set_option maxHeartbeats 4000000 in
theorem ntplus_any (b r x y : Int) (w : World) (hb : Am b) (hr : Am r) (hx : Am x) (hy : Am y) : Calls Try.prog 27 #[.agg #[.int .i64 b, .int .i64 r], .agg #[.int .i64 x, .int .i64 y]] w fun e w' => e = .returned (.tuple #[plW b r x y, .int .i64 (plF b r x y)]) ∧ Below w.heap.size w w' := by
  have H1 := Lib.hid (fun (W : World) => add_any b x W hb.1 hb.2 hx.1 hx.2)
  have H2 := Lib.hid (fun (W : World) => add_any r y W hr.1 hr.2 hy.1 hy.2)
  clear hb hr hx hy
  obtain ⟨W0, hW0⟩ : ∃ W0, W0 = ((w.alloc (.cells #[.int .i64 b, .int .i64 r] 43)).alloc (.cells #[.int .i64 x, .int .i64 y] 43)).alloc (.cells #[.int .i64 0, .int .i64 0] 43) := ⟨_, rfl⟩
  have HB0 : Hid (Below w.heap.size w W0) := by rw [hW0]; exact Lib.hid (up2 (up2 (boxed _ _) (boxed _ _)) (boxed _ _))
  have hX := Lib.hid (((Has.fresh w 43 #[.int .i64 b, .int .i64 r]).more (.cells #[.int .i64 x, .int .i64 y] 43)).more (.cells #[.int .i64 0, .int .i64 0] 43))
  have hY := Lib.hid ((Has.fresh (w.alloc (.cells #[.int .i64 b, .int .i64 r] 43)) 43 #[.int .i64 x, .int .i64 y]).more (.cells #[.int .i64 0, .int .i64 0] 43))
  have hZ := Lib.hid (Has.fresh ((w.alloc (.cells #[.int .i64 b, .int .i64 r] 43)).alloc (.cells #[.int .i64 x, .int .i64 y] 43)) 43 #[.int .i64 0, .int .i64 0])
  rw [← hW0] at hX hY hZ
  simp only [World.size_alloc] at hY hZ
  have hn0 : w.heap.size ≤ W0.heap.size := HB0.out.size
  generalize hs : w.heap.size = n at hX hY hZ HB0 hn0 ⊢
  have HN0 := Lib.hid hn0
  clear hn0
  rcases tellE_or (b + x) with ⟨q1, q2⟩ | q1
  · rw [q1, q2] at H1
    rcases tellE_or (r + y) with ⟨q3, q4⟩ | q3
    · rw [q3, q4] at H2
      have e1 : plW b r x y = .agg #[.int .i64 (b + x), .int .i64 (r + y)] := by unfold plW; rw [if_pos ⟨q1, q3⟩]
      have e2 : plF b r x y = 0 := by unfold plF; rw [if_pos ⟨q1, q3⟩]
      rw [e1, e2]
      clear q1 q2 q3 q4 e1 e2
      go_enter Try.func27, Try.ntmps27
      go_wp2_with fail
      rw [← hW0]
      refine (H1.out _).mono ?_
      rintro e w1 ⟨rfl, hb⟩
      have hx1 := hX.out.up hb
      have hy1 := hY.out.up hb
      have hz1 := hZ.out.up hb
      have HX1 := Lib.hid hx1
      have HY1 := Lib.hid hy1
      have HZ1 := Lib.hid hz1
      have N1 := Lib.hid (Nat.le_trans HN0.out hb.size)
      have B1 := Lib.hid (HB0.out.trans (hb.mono HN0.out))
      have x1 := hx1.cell 1
      have y1 := hy1.cell 1
      have z0 := hz1.cell 0
      have z1 := hz1.cell 1
      have f0 := hz1.free 0
      have f1 := hz1.free 1
      simp at x1 y1 z0 z1
      clear hb hx1 hy1 hz1
      go_wp2_with fail
      refine (H2.out _).mono ?_
      rintro e w2 ⟨rfl, hb⟩
      have hz2 := HZ1.out.up hb
      have B2 := Lib.hid (B1.out.trans (hb.mono N1.out))
      have HZ2 := Lib.hid hz2
      have z0 := hz2.cell 0
      have z1 := hz2.cell 1
      have f0 := hz2.free 0
      have f1 := hz2.free 1
      simp at z0 z1
      clear hb hz2 x1 y1
      go_wp2_with fail
      have e0 : (((w2.setCell ⟨n + 1 + 1, 0, none⟩ (.int .i64 (b + x))).setCell ⟨n + 1 + 1, 1, none⟩ (.int .i64 (r + y))).cell? ⟨n + 1 + 1, 0, none⟩) = some (.int .i64 (b + x)) := by have := ((HZ2.out.put 0 (.int .i64 (b + x))).put 1 (.int .i64 (r + y))).cell 0; simpa using this
      have e1 : (((w2.setCell ⟨n + 1 + 1, 0, none⟩ (.int .i64 (b + x))).setCell ⟨n + 1 + 1, 1, none⟩ (.int .i64 (r + y))).cell? ⟨n + 1 + 1, 1, none⟩) = some (.int .i64 (r + y)) := by have := ((HZ2.out.put 0 (.int .i64 (b + x))).put 1 (.int .i64 (r + y))).cell 1; simpa using this
      exact bodyPost_ret (v := .tuple #[.agg #[.int .i64 (b + x), .int .i64 (r + y)], .int .i64 0]) (by simp [results, Try.results27, go_sem, e0, e1]) rfl ⟨rfl, (B2.out.setCell (by show n ≤ n + 1 + 1; omega) _).setCell (by show n ≤ n + 1 + 1; omega) _⟩
    · have e1 : plW b r x y = .agg #[.int .i64 0, .int .i64 0] := by unfold plW; rw [if_neg (fun z => by rw [q3] at z; exact absurd z.2 (by decide))]
      have e2 : plF b r x y = 3 := by unfold plF; rw [if_neg (fun z => by rw [q3] at z; exact absurd z.2 (by decide))]
      rw [q3] at H2
      rw [e1, e2]
      clear q1 q2 q3 e1 e2
      go_enter Try.func27, Try.ntmps27
      go_wp2_with fail
      rw [← hW0]
      refine (H1.out _).mono ?_
      rintro e w1 ⟨rfl, hb⟩
      have hx1 := hX.out.up hb
      have hy1 := hY.out.up hb
      have hz1 := hZ.out.up hb
      have HX1 := Lib.hid hx1
      have HY1 := Lib.hid hy1
      have HZ1 := Lib.hid hz1
      have N1 := Lib.hid (Nat.le_trans HN0.out hb.size)
      have B1 := Lib.hid (HB0.out.trans (hb.mono HN0.out))
      have x1 := hx1.cell 1
      have y1 := hy1.cell 1
      have z0 := hz1.cell 0
      have z1 := hz1.cell 1
      have f0 := hz1.free 0
      have f1 := hz1.free 1
      simp at x1 y1 z0 z1
      clear hb hx1 hy1 hz1
      go_wp2_with fail
      refine (H2.out _).mono ?_
      rintro e w2 ⟨rfl, hb⟩
      have hz2 := HZ1.out.up hb
      have B2 := Lib.hid (B1.out.trans (hb.mono N1.out))
      have HZ2 := Lib.hid hz2
      have z0 := hz2.cell 0
      have z1 := hz2.cell 1
      have f0 := hz2.free 0
      have f1 := hz2.free 1
      simp at z0 z1
      clear hb hz2 x1 y1
      go_wp2_with fail
      have e0 : (((w2.setCell ⟨n + 1 + 1, 0, none⟩ (.int .i64 0)).setCell ⟨n + 1 + 1, 1, none⟩ (.int .i64 0)).cell? ⟨n + 1 + 1, 0, none⟩) = some (.int .i64 0) := by have := ((HZ2.out.put 0 (.int .i64 0)).put 1 (.int .i64 0)).cell 0; simpa using this
      have e1 : (((w2.setCell ⟨n + 1 + 1, 0, none⟩ (.int .i64 0)).setCell ⟨n + 1 + 1, 1, none⟩ (.int .i64 0)).cell? ⟨n + 1 + 1, 1, none⟩) = some (.int .i64 0) := by have := ((HZ2.out.put 0 (.int .i64 0)).put 1 (.int .i64 0)).cell 1; simpa using this
      exact bodyPost_ret (v := .tuple #[.agg #[.int .i64 0, .int .i64 0], .int .i64 3]) (by simp [results, Try.results27, go_sem, e0, e1]) rfl ⟨rfl, (B2.out.setCell (by show n ≤ n + 1 + 1; omega) _).setCell (by show n ≤ n + 1 + 1; omega) _⟩
  · have e1 : plW b r x y = .agg #[.int .i64 0, .int .i64 0] := by unfold plW; rw [if_neg (fun z => by rw [q1] at z; exact absurd z.1 (by decide))]
    have e2 : plF b r x y = 3 := by unfold plF; rw [if_neg (fun z => by rw [q1] at z; exact absurd z.1 (by decide))]
    rw [q1] at H1
    rw [e1, e2]
    clear q1 e1 e2
    go_enter Try.func27, Try.ntmps27
    go_wp2_with fail
    rw [← hW0]
    refine (H1.out _).mono ?_
    rintro e w1 ⟨rfl, hb⟩
    have hx1 := hX.out.up hb
    have hy1 := hY.out.up hb
    have hz1 := hZ.out.up hb
    have HX1 := Lib.hid hx1
    have HY1 := Lib.hid hy1
    have HZ1 := Lib.hid hz1
    have N1 := Lib.hid (Nat.le_trans HN0.out hb.size)
    have B1 := Lib.hid (HB0.out.trans (hb.mono HN0.out))
    have x1 := hx1.cell 1
    have y1 := hy1.cell 1
    have z0 := hz1.cell 0
    have z1 := hz1.cell 1
    have f0 := hz1.free 0
    have f1 := hz1.free 1
    simp at x1 y1 z0 z1
    clear hb hx1 hy1 hz1
    go_wp2_with fail
    have e0 : (((w1.setCell ⟨n + 1 + 1, 0, none⟩ (.int .i64 0)).setCell ⟨n + 1 + 1, 1, none⟩ (.int .i64 0)).cell? ⟨n + 1 + 1, 0, none⟩) = some (.int .i64 0) := by have := ((HZ1.out.put 0 (.int .i64 0)).put 1 (.int .i64 0)).cell 0; simpa using this
    have e1 : (((w1.setCell ⟨n + 1 + 1, 0, none⟩ (.int .i64 0)).setCell ⟨n + 1 + 1, 1, none⟩ (.int .i64 0)).cell? ⟨n + 1 + 1, 1, none⟩) = some (.int .i64 0) := by have := ((HZ1.out.put 0 (.int .i64 0)).put 1 (.int .i64 0)).cell 1; simpa using this
    exact bodyPost_ret (v := .tuple #[.agg #[.int .i64 0, .int .i64 0], .int .i64 3]) (by simp [results, Try.results27, go_sem, e0, e1]) rfl ⟨rfl, (B1.out.setCell (by show n ≤ n + 1 + 1; omega) _).setCell (by show n ≤ n + 1 + 1; omega) _⟩
end Go.Proofs.Ytiaocahcdbikhaa
