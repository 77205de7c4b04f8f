/- Contract: dateOf. -/
import Derived.Test.YtmodnkdgkdpacaaDoorCvD
namespace Go.Proofs.YtmodnkdgkdpacaaDoor
open Go.RowKit

/-- the date that a struct's three cells bear, and the world beyond -/
def Dated (w : World) (n : Int) (e : Ending) (w' : World) : Prop := ∃ y m d : Int, e = .returned (.agg #[.int .i64 y, .int .i64 m, .int .i64 d]) ∧ Isd n y m d ∧ Below w.heap.size w w'

/-- dateOf's worlds: a date's block p, and the answer's -/
structure DB (w : World) (p r : Nat) (y m d : Int) (W : World) : Prop where
  bel : Below w.heap.size w W
  p0 : W.cell? ⟨p, 0, none⟩ = some (.int .i64 y)
  p1 : W.cell? ⟨p, 1, none⟩ = some (.int .i64 m)
  p2 : W.cell? ⟨p, 2, none⟩ = some (.int .i64 d)
  f0 : W.frozen? ⟨p, 0, none⟩ = false
  f1 : W.frozen? ⟨p, 1, none⟩ = false
  f2 : W.frozen? ⟨p, 2, none⟩ = false
  r0 : ∃ v, W.cell? ⟨r, 0, none⟩ = some (.int .i64 v)
  r1 : ∃ v, W.cell? ⟨r, 1, none⟩ = some (.int .i64 v)
  r2 : ∃ v, W.cell? ⟨r, 2, none⟩ = some (.int .i64 v)
  g0 : W.frozen? ⟨r, 0, none⟩ = false
  g1 : W.frozen? ⟨r, 1, none⟩ = false
  g2 : W.frozen? ⟨r, 2, none⟩ = false
  pr : p ≠ r
  pw : w.heap.size ≤ p
  rw' : w.heap.size ≤ r
theorem DB.drewN {w W : World} {p r : Nat} {y m d : Int} (h : DB w p r y m d W) (q : Nat) : DB w p r y m d (W.drewN q) :=
  ⟨blw h.bel q, h.p0, h.p1, h.p2, h.f0, h.f1, h.f2, h.r0, h.r1, h.r2, h.g0, h.g1, h.g2, h.pr, h.pw, h.rw'⟩
theorem DB.drew {w W : World} {p r : Nat} {y m d : Int} (h : DB w p r y m d W) : DB w p r y m d W.drew :=
  ⟨h.bel.drew, h.p0, h.p1, h.p2, h.f0, h.f1, h.f2, h.r0, h.r1, h.r2, h.g0, h.g1, h.g2, h.pr, h.pw, h.rw'⟩
theorem DB.set1 {w W : World} {p r : Nat} {y m d : Int} (h : DB w p r y m d W) (x : Int) : DB w p r y x d (W.setCell ⟨p, 1, none⟩ (.int .i64 x)) := by
  obtain ⟨v0, e0⟩ := h.r0; obtain ⟨v1, e1⟩ := h.r1; obtain ⟨v2, e2⟩ := h.r2
  have hn : r ≠ p := fun e => h.pr e.symm
  exact ⟨h.bel.setCell h.pw _, cset h.p0 (.inr (by decide)), csame h.p1, cset h.p2 (.inr (by decide)), fset h.f0, fset h.f1, fset h.f2, ⟨v0, cset e0 (.inl hn)⟩, ⟨v1, cset e1 (.inl hn)⟩, ⟨v2, cset e2 (.inl hn)⟩, fset h.g0, fset h.g1, fset h.g2, h.pr, h.pw, h.rw'⟩
theorem DB.set2 {w W : World} {p r : Nat} {y m d : Int} (h : DB w p r y m d W) (x : Int) : DB w p r y m x (W.setCell ⟨p, 2, none⟩ (.int .i64 x)) := by
  obtain ⟨v0, e0⟩ := h.r0; obtain ⟨v1, e1⟩ := h.r1; obtain ⟨v2, e2⟩ := h.r2
  have hn : r ≠ p := fun e => h.pr e.symm
  exact ⟨h.bel.setCell h.pw _, cset h.p0 (.inr (by decide)), cset h.p1 (.inr (by decide)), csame h.p2, fset h.f0, fset h.f1, fset h.f2, ⟨v0, cset e0 (.inl hn)⟩, ⟨v1, cset e1 (.inl hn)⟩, ⟨v2, cset e2 (.inl hn)⟩, fset h.g0, fset h.g1, fset h.g2, h.pr, h.pw, h.rw'⟩

set_option maxHeartbeats 2000000 in
theorem dateOf_any (n : Int) (w : World) (hL : Lg w) (h0 : 1 ≤ n) (h1 : n ≤ 999668) :
    Calls Tryd.prog 29 #[.int .i64 n] w (Dated w n) := by
  have HL := Lib.hid hL
  clear hL
  go_enter Tryd.func29, Tryd.ntmps29
  go_wp2_with fail
  obtain ⟨W0, hW0⟩ : ∃ W0, W0 = (w.alloc (.cells #[.int .i64 n] 3)).alloc (.cells #[.int .i64 0, .int .i64 0, .int .i64 0] 47) := ⟨_, rfl⟩
  have c0 : W0.cell? ⟨w.heap.size, 0, none⟩ = some (.int .i64 n) := by rw [hW0]; simp [go_sem]
  have HB : Hid (Below w.heap.size w W0) := by rw [hW0]; exact (boxed _ _).alloc (by simp) _
  have z0 : W0.cell? ⟨w.heap.size + 1, 0, none⟩ = some (.int .i64 0) := by rw [hW0]; simp [go_sem]
  have z1 : W0.cell? ⟨w.heap.size + 1, 1, none⟩ = some (.int .i64 0) := by rw [hW0]; simp [go_sem]
  have z2 : W0.cell? ⟨w.heap.size + 1, 2, none⟩ = some (.int .i64 0) := by rw [hW0]; simp [go_sem]
  have hF : W0.frozen? ⟨w.heap.size + 1, 0, none⟩ = false ∧ W0.frozen? ⟨w.heap.size + 1, 1, none⟩ = false ∧ W0.frozen? ⟨w.heap.size + 1, 2, none⟩ = false := by rw [hW0]; refine ⟨?_, ?_, ?_⟩ <;> simp [go_sem]
  rw [← hW0]
  have HS : Hid (W0.heap.size = w.heap.size + 2) := by rw [hW0]; show _ = _; simp
  clear hW0
  refine (search_any n _ W0 c0 h0 h1).mono ?_
  rintro e w1 ⟨k, k0, k1, k2, k3, rfl, q, rfl⟩
  have i1 : IntKind.i64.wrap (1 + k) = 1 + k := by rw [IntKind.wrap_i64]; omega
  obtain ⟨y, hy⟩ : ∃ y, y = 1 + k := ⟨_, rfl⟩
  have y0 : 1 ≤ y := by omega
  have y1 : y ≤ 2737 := by omega
  rw [show k + 1 = y by omega] at k2
  rw [show k + 2 = y + 1 by omega] at k3
  rw [← hy] at i1
  have hd := dby_bd y0 (by omega)
  have i2 : IntKind.i64.wrap (n - dby y) = n - dby y := by rw [IntKind.wrap_i64]; omega
  obtain ⟨W1, hW1⟩ : ∃ W1, W1 = W0.drewN q := ⟨_, rfl⟩
  have x0 : W1.cell? ⟨w.heap.size, 0, none⟩ = some (.int .i64 n) := by rw [hW1]; exact c0
  have HB1 : Hid (Below w.heap.size w W1) := by rw [hW1]; exact blw HB.out q
  have HZ : Hid (W1.cell? ⟨w.heap.size + 1, 0, none⟩ = some (.int .i64 0) ∧ W1.cell? ⟨w.heap.size + 1, 1, none⟩ = some (.int .i64 0) ∧ W1.cell? ⟨w.heap.size + 1, 2, none⟩ = some (.int .i64 0) ∧ W1.frozen? ⟨w.heap.size + 1, 0, none⟩ = false ∧ W1.frozen? ⟨w.heap.size + 1, 1, none⟩ = false ∧ W1.frozen? ⟨w.heap.size + 1, 2, none⟩ = false) := by rw [hW1]; exact ⟨z0, z1, z2, hF⟩
  have HS1 : Hid (W1.heap.size = w.heap.size + 2) := by rw [hW1]; exact HS.out
  rw [← hW1]
  clear hW1 c0 z0 z1 z2 hF HB HS
  have HY := Lib.hid hy
  clear hy
  go_upto_region 2 with fail
  rw [← HY.out]
  go_cut [4] (fun s wx => ∃ p, s = .pointer (some ⟨p, 0, none⟩) ∧ DB w p (w.heap.size + 1) y 1 (n - dby y) wx)
  case first =>
    go_region_held3 (fun w' => w'.cell? ⟨w.heap.size, 0, none⟩ = some (.int .i64 n)) (go_keep)
      ((go_at_call 37; ((with_reducible refine (ahead_any y _ y0 (by omega)).mono ?_); rintro e w' ⟨rfl, rfl⟩)))
    all_goals
      go_wp2_with fail
      go_meet
      obtain ⟨z0, z1, z2, g0, g1, g2⟩ := HZ.out
      have hs := HS1.out
      have b1 := boxed W1 (.cells #[.int .i64 y, .int .i64 1, .int .i64 (n - dby y)] 47)
      have hlt : w.heap.size + 1 < W1.heap.size := by omega
      have fz : ∀ o, (W1.alloc (.cells #[.int .i64 y, .int .i64 1, .int .i64 (n - dby y)] 47)).frozen? ⟨w.heap.size + 1, o, none⟩ = W1.frozen? ⟨w.heap.size + 1, o, none⟩ := fun o => b1.frozen (p := ⟨w.heap.size + 1, o, none⟩) hlt
      exact ⟨_, rfl, DB.drew ⟨up2 HB1.out b1, by simp [go_sem], by simp [go_sem], by simp [go_sem], by simp [go_sem], by simp [go_sem], by simp [go_sem], ⟨0, kcell b1 z0⟩, ⟨0, kcell b1 z1⟩, ⟨0, kcell b1 z2⟩, (fz 0).trans g0, (fz 1).trans g1, (fz 2).trans g2, by omega, by omega, by omega⟩⟩
  case rest =>
    obtain ⟨p, rfl, hD⟩ := hcut
    have HD := Lib.hid hD
    clear hD HZ HS1 HB1 x0 i1 i2 k0 k1 HY
    obtain ⟨r, hr⟩ : ∃ r, r = w.heap.size + 1 := ⟨_, rfl⟩
    rw [← hr] at HD ⊢
    clear hr
    go_wp2_with fail
    go_loopw [] (fun wr => ∃ m : Int, 1 ≤ m ∧ m ≤ 12 ∧ 1 ≤ n - dby y - cum y m ∧ DB w p r y m (n - dby y - cum y m) wr) (fun wr => (12 - intOf ((wr.cell? ⟨p, 1, none⟩).getD (.int .i64 0))).toNat)
    case atStart => exact ⟨1, by omega, by omega, by rw [cum_one]; omega, by rw [cum_one]; simpa using HD.out⟩
    case round =>
      obtain ⟨m, m0, m1, d0, hX⟩ := hrel
      have HX := Lib.hid hX
      clear hX HD
      have nx := Lib.hid (cum_next y0 m0 m1)
      have cb := cum_bd (y := y) m0 (by omega)
      have db := dim_bd y m
      have lst : m = 12 → n - dby y - cum y m ≤ dim y m := by
        intro e
        have := nx.out
        subst e
        have e2 := dby_next y0
        rw [show (12 : Int) + 1 = 13 by omega] at this
        omega
      obtain ⟨d, hd⟩ : ∃ d, d = n - dby y - cum y m := ⟨_, rfl⟩
      rw [← hd] at HX d0 lst
      have HDD := Lib.hid hd
      have d9 : d ≤ 999668 := by omega
      clear hd
      have c0 := HX.out.p0
      have c1 := HX.out.p1
      have c2 := HX.out.p2
      have HLX := Lib.hid (HL.out.below HX.out.bel)
      by_cases hlt : dim y m < d
      · have m11 : m < 12 := by omega
        clear lst
        go_wp2_with fail
        go_quiet (first | (go_at_call 19; with_reducible exact quiet_left (long_any y m _ (HLX.out.drewN _) (by unfold Am; omega))))
        have HX1 := Lib.hid (HX.out.drewN nq)
        obtain ⟨W2, hW2⟩ : ∃ W2, W2 = wr.drewN nq := ⟨_, rfl⟩
        rw [← hW2] at HX1 ⊢
        clear hW2 c0 c1 c2 HLX
        have c0 := HX1.out.p0
        have c1 := HX1.out.p1
        have c2 := HX1.out.p2
        have f2 := HX1.out.f2
        have HLX := Lib.hid (HL.out.below HX1.out.bel)
        have i1 : IntKind.i64.wrap (d - dim y m) = d - dim y m := by rw [IntKind.wrap_i64]; omega
        go_upto_region 4 with fail
        go_cut [] (fun wx => DB w p r y m (d - dim y m) wx)
        case first =>
          go_region_with (first | (go_at_call 19; ((with_reducible refine (long_any y m _ HLX.out.drew (by unfold Am; omega)).mono ?_); rintro e w' ⟨rfl, rfl⟩)))
          all_goals
            go_wp2_with fail
            go_meet
            exact HX1.out.drew.set2 _
        case rest =>
          have HX2 := Lib.hid hcut
          clear hcut HX1 c0 c1 c2 f2 HLX i1
          have c1 := HX2.out.p1
          have f1 := HX2.out.f1
          go_wp2_with fail
          go_roundw
          case rel =>
            have e1 := nx.out; have e2 := HDD.out
            refine ⟨m + 1, by omega, by omega, by omega, ?_⟩
            rw [show n - dby y - cum y (m + 1) = d - dim y m by omega]
            exact HX2.out.set1 _
          case measure =>
            have e1 := (HX2.out.set1 (m + 1)).p1
            have e2 := HX.out.p1
            simp only [e1, e2]
            simp [intOf]; omega
      · have hle : d ≤ dim y m := by omega
        clear lst
        go_wp2_with fail
        go_quiet (first | (go_at_call 19; with_reducible exact quiet_left (long_any y m _ (HLX.out.drewN _) (by unfold Am; omega))))
        have HX1 := Lib.hid (HX.out.drewN nq)
        obtain ⟨W2, hW2⟩ : ∃ W2, W2 = wr.drewN nq := ⟨_, rfl⟩
        rw [← hW2] at HX1 ⊢
        clear hW2 c0 c1 c2 HX HLX
        have c0 := HX1.out.p0
        have c1 := HX1.out.p1
        have c2 := HX1.out.p2
        obtain ⟨v0, r0⟩ := HX1.out.r0
        obtain ⟨v1, r1⟩ := HX1.out.r1
        obtain ⟨v2, r2⟩ := HX1.out.r2
        have g0 := HX1.out.g0
        have g1 := HX1.out.g1
        have g2 := HX1.out.g2
        go_wp2_with fail
        obtain ⟨W3, hW3⟩ : ∃ W3, W3 = ((W2.setCell ⟨r, 0, none⟩ (.int .i64 y)).setCell ⟨r, 1, none⟩ (.int .i64 m)).setCell ⟨r, 2, none⟩ (.int .i64 d) := ⟨_, rfl⟩
        rw [← hW3]
        have e0 : W3.cell? ⟨r, 0, none⟩ = some (.int .i64 y) := by rw [hW3]; exact cset (cset (csame r0) (.inr (by decide))) (.inr (by decide))
        have e1 : W3.cell? ⟨r, 1, none⟩ = some (.int .i64 m) := by rw [hW3]; exact cset (csame (cset r1 (.inr (by decide)))) (.inr (by decide))
        have e2 : W3.cell? ⟨r, 2, none⟩ = some (.int .i64 d) := by rw [hW3]; exact csame (cset (cset r2 (.inr (by decide))) (.inr (by decide)))
        have hB3 : Below w.heap.size w W3 := by rw [hW3]; exact ((HX1.out.bel.setCell HX1.out.rw' _).setCell HX1.out.rw' _).setCell HX1.out.rw' _
        clear hW3 c0 c1 c2 r0 r1 r2 g0 g1 g2
        exact bodyPost_ret (v := .agg #[.int .i64 y, .int .i64 m, .int .i64 d]) (by simp [results, Tryd.results29, go_sem, e0, e1, e2]) rfl ⟨y, m, d, rfl, ⟨⟨y0, y1, m0, m1, d0, hle⟩, by have := HDD.out; unfold num; omega⟩, hB3⟩
end Go.Proofs.YtmodnkdgkdpacaaDoor
