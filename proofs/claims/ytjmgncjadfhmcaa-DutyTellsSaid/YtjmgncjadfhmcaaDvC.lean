/- The reference's together. -/
import Derived.Test.YtjmgncjadfhmcaaDuK
import Derived.Test.YtjmgncjadfhmcaaBqA
namespace Go.Proofs.Ytjmgncjadfhmcaa
open Go.RowKit

theorem im_cells {w : World} {a : Option Addr} {l : List Im} (h : ItA w a l) {j : Nat} {x : Im} (hx : l[j]? = some x) : ∃ b o, a = some ⟨b, o, none⟩ ∧ w.cell? ⟨b, o + j * 4, none⟩ = some (.int .i64 x.tag) ∧ w.cell? ⟨b, o + j * 4 + 1, none⟩ = some (.int .i64 x.grp) ∧ w.cell? ⟨b, o + j * 4 + 2, none⟩ = some (.int .i64 x.met) ∧ w.cell? ⟨b, o + j * 4 + 3, none⟩ = some (.int .i64 x.pri) := im_at h hx
/-- a line's item, by its place -/
theorem im_place {S : Bs} {x : Ln} (h : hasB S x.it = true) : ∃ g : Nat, x.it = (g : Int) ∧ g < S.I.length ∧ S.I[g]? = some (imAt S x) := by
  obtain ⟨h1, h2⟩ := hasB_iff.1 h
  refine ⟨x.it.toNat, by omega, by omega, ?_⟩
  have hlt : x.it.toNat < S.I.length := by omega
  unfold imAt
  rw [List.getElem?_eq_getElem hlt]; rfl
section
variable {w : World} {p : Nat} {S : Bs}
set_option maxRecDepth 100000 in
set_option maxHeartbeats 4000000 in
theorem qtog_any (a : Option Addr) (n cap : Nat) (l : List Ln) (i k : Nat) (hn : l.length = n) (h : Rb w p S) (hl : LnA w a l) (hi : i < n) (hk : k < n) (hall : ∀ x ∈ l, hasB S x.it = true) :
    Calls Try.prog 26 #[.pointer (some ⟨p, 0, none⟩), .slice a n cap, .int .i64 (i : Int), .int .i64 (k : Int)] w fun e w' => e = .returned (.bool (togB S l i k)) ∧ Below w.heap.size w w' := by
  obtain ⟨R, hR⟩ : ∃ R, R = togB S l i k := ⟨_, rfl⟩
  rw [← hR]
  have hi0 : (0 : Int) ≤ (i : Int) := by omega
  have hk0 : (0 : Int) ≤ (k : Int) := by omega
  by_cases hik : i = k
  · have hT : R = true := by rw [hR]; unfold togB; rw [if_pos hik]
    subst hT
    subst hik
    clear hR h hl hall
    go_enter Try.func26, Try.ntmps26
    go_wp2_with fail
    go_ret
    exact ⟨rfl, Below.refl _ _⟩
  · have hne : ((i : Int) == (k : Int)) = false := by simp; omega
    obtain ⟨x, hx⟩ : ∃ x, l[i]? = some x := ⟨l[i]'(by omega), List.getElem?_eq_getElem _⟩
    obtain ⟨y, hy⟩ : ∃ y, l[k]? = some y := ⟨l[k]'(by omega), List.getElem?_eq_getElem _⟩
    obtain ⟨gx, ex, hgx, hIx⟩ := im_place (hall x (List.mem_of_getElem? hx))
    obtain ⟨gy, ey, hgy, hIy⟩ := im_place (hall y (List.mem_of_getElem? hy))
    have hRR : R = if (imAt S x).tag = 1 ∧ (imAt S y).tag = 1 then decide ((imAt S x).grp = (imAt S y).grp) else decide ((imAt S x).tag = 2) && decide ((gx : Int) = (gy : Int)) := by
      rw [hR]; unfold togB
      rw [if_neg hik, lnAt_some hx, lnAt_some hy, ex, ey]
    obtain ⟨mx, hmx⟩ : ∃ mx, mx = imAt S x := ⟨_, rfl⟩
    obtain ⟨my, hmy⟩ : ∃ my, my = imAt S y := ⟨_, rfl⟩
    rw [← hmx, ← hmy] at hRR
    rw [← hmx] at hIx
    rw [← hmy] at hIy
    obtain ⟨qa, qc, la, lc, hb⟩ := h
    have q0 := hb.c0
    obtain ⟨bi, oi, rfl, x0, x1, x2, x3⟩ := im_cells hb.items hIx
    obtain ⟨bj, oj, hbj, y0, y1, y2, y3⟩ := im_cells hb.items hIy
    obtain ⟨rfl, rfl⟩ : bi = bj ∧ oi = oj := by injection hbj with z; injection z with z1 z2; exact ⟨z1, z2⟩
    obtain ⟨b, o, rfl, c0, _, _, _, _⟩ := ln_at hl hx
    obtain ⟨b2, o2, hb2, d0, _, _, _, _⟩ := ln_at hl hy
    obtain ⟨rfl, rfl⟩ : b = b2 ∧ o = o2 := by injection hb2 with z; injection z with z1 z2; exact ⟨z1, z2⟩
    rw [ex] at c0
    rw [ey] at d0
    obtain ⟨NI, hNI⟩ : ∃ NI, NI = S.I.length := ⟨_, rfl⟩
    rw [← hNI] at q0 hgx hgy
    have gx0 : (0 : Int) ≤ (gx : Int) := by omega
    have gy0 : (0 : Int) ≤ (gy : Int) := by omega
    have HR := Lib.hid hRR
    have n1 : w.heap.size ≠ b := World.new_ne w ⟨b, _, none⟩ c0
    have n2 : w.heap.size ≠ bi := World.new_ne w ⟨bi, _, none⟩ x0
    have n3 : w.heap.size ≠ p := World.new_ne w ⟨p, _, none⟩ q0
    obtain ⟨tx, gxx, mxx, pxx⟩ := mx
    obtain ⟨ty, gyy, myy, pyy⟩ := my
    simp only at x0 x1 x2 x3 y0 y1 y2 y3 HR
    clear hx hy hIx hIy hmx hmy hb hl hall hR hRR hbj hb2 hik ex ey hNI
    go_enter Try.func26, Try.ntmps26
    go_wp2_with fail
    go_region_held3 (fun w' => w'.cell? ⟨p, 0, none⟩ = some (.slice (some ⟨bi, oi, none⟩) NI qc) ∧ w'.cell? ⟨b, o + i * 5, none⟩ = some (.int .i64 (gx : Int)) ∧ w'.cell? ⟨bi, oi + gx * 4, none⟩ = some (.int .i64 tx) ∧ w'.cell? ⟨bi, oi + gx * 4 + 1, none⟩ = some (.int .i64 gxx) ∧ w'.cell? ⟨bi, oi + gx * 4 + 2, none⟩ = some (.int .i64 mxx) ∧ w'.cell? ⟨bi, oi + gx * 4 + 3, none⟩ = some (.int .i64 pxx))
      (go_keep) (fail)
    all_goals
      obtain ⟨W1, hW1⟩ : ∃ W1, W1 = (w.alloc (.cells #[.int .i64 tx, .int .i64 gxx, .int .i64 mxx, .int .i64 pxx] 50)).drew := ⟨_, rfl⟩
      rw [← hW1]
      have hb1 : Below w.heap.size w W1 := by rw [hW1]; exact (boxed _ _).drew
      have hX : Has W1 w.heap.size 50 #[.int .i64 tx, .int .i64 gxx, .int .i64 mxx, .int .i64 pxx] := by rw [hW1]; exact Has.fresh w _ _
      have HB1 := Lib.hid hb1
      have HX := Lib.hid hX
      replace q0 := kcell hb1 q0
      replace c0 := kcell hb1 c0
      replace d0 := kcell hb1 d0
      replace y0 := kcell hb1 y0
      replace y1 := kcell hb1 y1
      replace y2 := kcell hb1 y2
      replace y3 := kcell hb1 y3
      have n1' : W1.heap.size ≠ b := World.new_ne W1 ⟨b, _, none⟩ c0
      have n2' : W1.heap.size ≠ bi := World.new_ne W1 ⟨bi, _, none⟩ y0
      have n3' : W1.heap.size ≠ p := World.new_ne W1 ⟨p, _, none⟩ q0
      clear hb1 hX hW1 n1 n2 n3 x0 x1 x2 x3
      go_wp2_with fail
      go_region_held3 (fun w' => w'.cell? ⟨p, 0, none⟩ = some (.slice (some ⟨bi, oi, none⟩) NI qc) ∧ w'.cell? ⟨b, o + k * 5, none⟩ = some (.int .i64 (gy : Int)) ∧ w'.cell? ⟨bi, oi + gy * 4, none⟩ = some (.int .i64 ty) ∧ w'.cell? ⟨bi, oi + gy * 4 + 1, none⟩ = some (.int .i64 gyy) ∧ w'.cell? ⟨bi, oi + gy * 4 + 2, none⟩ = some (.int .i64 myy) ∧ w'.cell? ⟨bi, oi + gy * 4 + 3, none⟩ = some (.int .i64 pyy))
        (go_keep) (fail)
      all_goals
        obtain ⟨W2, hW2⟩ : ∃ W2, W2 = (W1.alloc (.cells #[.int .i64 ty, .int .i64 gyy, .int .i64 myy, .int .i64 pyy] 50)).drew := ⟨_, rfl⟩
        rw [← hW2]
        have hb2 : Below W1.heap.size W1 W2 := by rw [hW2]; exact (boxed _ _).drew
        have hY : Has W2 W1.heap.size 50 #[.int .i64 ty, .int .i64 gyy, .int .i64 myy, .int .i64 pyy] := by rw [hW2]; exact Has.fresh W1 _ _
        have hX2 := HX.out.up hb2
        have HB2 := Lib.hid (up2 HB1.out hb2)
        replace c0 := kcell hb2 c0
        replace d0 := kcell hb2 d0
        have s0 : W2.cell? ⟨w.heap.size, 0, none⟩ = some (.int .i64 tx) := hX2.cell 0
        have s1 : W2.cell? ⟨w.heap.size, 1, none⟩ = some (.int .i64 gxx) := hX2.cell 1
        have t0 : W2.cell? ⟨W1.heap.size, 0, none⟩ = some (.int .i64 ty) := hY.cell 0
        have t1 : W2.cell? ⟨W1.heap.size, 1, none⟩ = some (.int .i64 gyy) := hY.cell 1
        clear hb2 hY hX2 hW2 n1' n2' n3' q0 y0 y1 y2 y3
        cases u1 : (tx == 1) with
        | true =>
          have hz1 : tx = 1 := by simpa using u1
          subst hz1
          cases u2 : (ty == 1) with
          | true =>
            have hz2 : ty = 1 := by simpa using u2
            have hRR : R = decide (gxx = gyy) := by have := HR.out; rw [if_pos ⟨rfl, hz2⟩] at this; exact this
            subst hRR
            go_wp2_with fail
            go_ret
            exact ⟨rfl, HB2.out⟩
          | false =>
            have hz2 : ¬ ty = 1 := by simpa using u2
            have hRR : R = false := by have := HR.out; rw [if_neg (fun z => hz2 z.2)] at this; simpa using this
            subst hRR
            have u3 : ((1 : Int) == 2) = false := rfl
            go_wp2_with fail
            go_quiet (fail)
            go_wp2_with fail
            go_ret
            exact ⟨rfl, blw HB2.out _⟩
        | false =>
          have hz1 : ¬ tx = 1 := by simpa using u1
          have hRR : R = (decide (tx = 2) && decide ((gx : Int) = (gy : Int))) := by have := HR.out; rw [if_neg (fun z => hz1 z.1)] at this; exact this
          cases u3 : (tx == 2) with
          | true =>
            have hz2 : tx = 2 := by simpa using u3
            subst hz2
            have hRR : R = decide ((gx : Int) = (gy : Int)) := by rw [hRR]; simp
            subst hRR
            go_wp2_with fail
            go_quiet (fail)
            go_wp2_with fail
            go_ret
            exact ⟨rfl, blw HB2.out _⟩
          | false =>
            have hz2 : ¬ tx = 2 := by simpa using u3
            have hRR : R = false := by rw [hRR]; simp [hz2]
            subst hRR
            clear hz1 hz2 hRR HR
            go_wp2_with fail
            go_quiet (fail)
            go_wp2_with fail
            go_ret
            exact ⟨rfl, blw HB2.out _⟩
end
end Go.Proofs.Ytjmgncjadfhmcaa
