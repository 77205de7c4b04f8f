/- The reference's together. -/
import Derived.Test.YtklaonoekmhakaaGreatBqA
namespace Go.Proofs.YtklaonoekmhakaaGreat
open Go.RowKit

theorem im_cells {w : World} {a : Option Addr} {l : List Im} (h : ItA w a l) {j : Nat} {x : Im} (hx : l[j]? = some x) : ∃ b o, a = some ⟨b, o, none⟩ ∧ w.cell? ⟨b, o + j * 4, none⟩ = some (.int .i64 x.tag) ∧ w.cell? ⟨b, o + j * 4 + 1, none⟩ = some (.int .i64 x.grp) ∧ w.cell? ⟨b, o + j * 4 + 2, none⟩ = some (.int .i64 x.met) ∧ w.cell? ⟨b, o + j * 4 + 3, none⟩ = some (.int .i64 x.pri) := im_at h hx
/-- a line's item, by its place -/
theorem im_place {S : Bs} {x : Ln} (h : hasB S x.it = true) : ∃ g : Nat, x.it = (g : Int) ∧ g < S.I.length ∧ S.I[g]? = some (imAt S x) := by
  obtain ⟨h1, h2⟩ := hasB_iff.1 h
  refine ⟨x.it.toNat, by omega, by omega, ?_⟩
  have hlt : x.it.toNat < S.I.length := by omega
  unfold imAt
  rw [List.getElem?_eq_getElem hlt]; rfl
section
variable {w : World} {p : Nat} {S : Bs}
set_option maxRecDepth 100000 in
set_option maxHeartbeats 4000000 in
theorem qtog_any (a : Option Addr) (n cap : Nat) (l : List Ln) (i k : Nat) (hn : l.length = n) (h : Rb w p S) (hl : LnA w a l) (hi : i < n) (hk : k < n) (hall : ∀ x ∈ l, hasB S x.it = true) :
    Calls Tryz.prog 105 #[.pointer (some ⟨p, 0, none⟩), .slice a n cap, .int .i64 (i : Int), .int .i64 (k : Int)] w fun e w' => e = .returned (.bool (togB S l i k)) ∧ Below w.heap.size w w' := by
  obtain ⟨R, hR⟩ : ∃ R, R = togB S l i k := ⟨_, rfl⟩
  rw [← hR]
  have hi0 : (0 : Int) ≤ (i : Int) := by omega
  have hk0 : (0 : Int) ≤ (k : Int) := by omega
  by_cases hik : i = k
  · have hT : R = true := by rw [hR]; unfold togB; rw [if_pos hik]
    subst hT
    subst hik
    clear hR h hl hall
    go_enter Tryz.func105, Tryz.ntmps105
    go_wp2_with fail
    go_ret
    exact ⟨rfl, Below.refl _ _⟩
  · have hne : ((i : Int) == (k : Int)) = false := by simp; omega
    obtain ⟨x, hx⟩ : ∃ x, l[i]? = some x := ⟨l[i]'(by omega), List.getElem?_eq_getElem _⟩
    obtain ⟨y, hy⟩ : ∃ y, l[k]? = some y := ⟨l[k]'(by omega), List.getElem?_eq_getElem _⟩
    obtain ⟨gx, ex, hgx, hIx⟩ := im_place (hall x (List.mem_of_getElem? hx))
    obtain ⟨gy, ey, hgy, hIy⟩ := im_place (hall y (List.mem_of_getElem? hy))
    have hRR : R = if (imAt S x).tag = 1 ∧ (imAt S y).tag = 1 then decide ((imAt S x).grp = (imAt S y).grp) else decide ((imAt S x).tag = 2) && decide ((gx : Int) = (gy : Int)) := by
      rw [hR]; unfold togB
      rw [if_neg hik, lnAt_some hx, lnAt_some hy, ex, ey]
    obtain ⟨mx, hmx⟩ : ∃ mx, mx = imAt S x := ⟨_, rfl⟩
    obtain ⟨my, hmy⟩ : ∃ my, my = imAt S y := ⟨_, rfl⟩
    rw [← hmx, ← hmy] at hRR
    rw [← hmx] at hIx
    rw [← hmy] at hIy
    obtain ⟨qa, qc, la, lc, hb⟩ := h
    have q0 := hb.c0
    obtain ⟨bi, oi, rfl, x0, x1, x2, x3⟩ := im_cells hb.items hIx
    obtain ⟨bj, oj, hbj, y0, y1, y2, y3⟩ := im_cells hb.items hIy
    obtain ⟨rfl, rfl⟩ : bi = bj ∧ oi = oj := by injection hbj with z; injection z with z1 z2; exact ⟨z1, z2⟩
    obtain ⟨b, o, rfl, c0, _, _, _, _⟩ := ln_at hl hx
    obtain ⟨b2, o2, hb2, d0, _, _, _, _⟩ := ln_at hl hy
    obtain ⟨rfl, rfl⟩ : b = b2 ∧ o = o2 := by injection hb2 with z; injection z with z1 z2; exact ⟨z1, z2⟩
    rw [ex] at c0
    rw [ey] at d0
    obtain ⟨NI, hNI⟩ : ∃ NI, NI = S.I.length := ⟨_, rfl⟩
    rw [← hNI] at q0 hgx hgy
    have gx0 : (0 : Int) ≤ (gx : Int) := by omega
    have gy0 : (0 : Int) ≤ (gy : Int) := by omega
    have HR := Lib.hid hRR
    have n1 : w.heap.size ≠ b := World.new_ne w ⟨b, _, none⟩ c0
    have n2 : w.heap.size ≠ bi := World.new_ne w ⟨bi, _, none⟩ x0
    have n3 : w.heap.size ≠ p := World.new_ne w ⟨p, _, none⟩ q0
    obtain ⟨tx, gxx, mxx, pxx⟩ := mx
    obtain ⟨ty, gyy, myy, pyy⟩ := my
    simp only at x0 x1 x2 x3 y0 y1 y2 y3 HR
    clear hx hy hIx hIy hmx hmy hb hl hall hR hRR hbj hb2 hik ex ey hNI
    go_enter Tryz.func105, Tryz.ntmps105
    go_wp2_with fail
    go_region_held3 (fun w' => w'.cell? ⟨p, 0, none⟩ = some (.slice (some ⟨bi, oi, none⟩) NI qc) ∧ w'.cell? ⟨b, o + i * 5, none⟩ = some (.int .i64 (gx : Int)) ∧ w'.cell? ⟨bi, oi + gx * 4, none⟩ = some (.int .i64 tx) ∧ w'.cell? ⟨bi, oi + gx * 4 + 1, none⟩ = some (.int .i64 gxx) ∧ w'.cell? ⟨bi, oi + gx * 4 + 2, none⟩ = some (.int .i64 mxx) ∧ w'.cell? ⟨bi, oi + gx * 4 + 3, none⟩ = some (.int .i64 pxx))
      (go_keep) (fail)
    all_goals
      obtain ⟨W1, hW1⟩ : ∃ W1, W1 = (w.alloc (.cells #[.int .i64 tx, .int .i64 gxx, .int .i64 mxx, .int .i64 pxx] 72)).drew := ⟨_, rfl⟩
      rw [← hW1]
      have hb1 : Below w.heap.size w W1 := by rw [hW1]; exact (boxed _ _).drew
      have hX : Has W1 w.heap.size 72 #[.int .i64 tx, .int .i64 gxx, .int .i64 mxx, .int .i64 pxx] := by rw [hW1]; exact Has.fresh w _ _
      have HB1 := Lib.hid hb1
      have HX := Lib.hid hX
      replace q0 := kcell hb1 q0
      replace c0 := kcell hb1 c0
      replace d0 := kcell hb1 d0
      replace y0 := kcell hb1 y0
      replace y1 := kcell hb1 y1
      replace y2 := kcell hb1 y2
      replace y3 := kcell hb1 y3
      have n1' : W1.heap.size ≠ b := World.new_ne W1 ⟨b, _, none⟩ c0
      have n2' : W1.heap.size ≠ bi := World.new_ne W1 ⟨bi, _, none⟩ y0
      have n3' : W1.heap.size ≠ p := World.new_ne W1 ⟨p, _, none⟩ q0
      clear hb1 hX hW1 n1 n2 n3 x0 x1 x2 x3
      go_wp2_with fail
      go_region_held3 (fun w' => w'.cell? ⟨p, 0, none⟩ = some (.slice (some ⟨bi, oi, none⟩) NI qc) ∧ w'.cell? ⟨b, o + k * 5, none⟩ = some (.int .i64 (gy : Int)) ∧ w'.cell? ⟨bi, oi + gy * 4, none⟩ = some (.int .i64 ty) ∧ w'.cell? ⟨bi, oi + gy * 4 + 1, none⟩ = some (.int .i64 gyy) ∧ w'.cell? ⟨bi, oi + gy * 4 + 2, none⟩ = some (.int .i64 myy) ∧ w'.cell? ⟨bi, oi + gy * 4 + 3, none⟩ = some (.int .i64 pyy))
        (go_keep) (fail)
      all_goals
        obtain ⟨W2, hW2⟩ : ∃ W2, W2 = (W1.alloc (.cells #[.int .i64 ty, .int .i64 gyy, .int .i64 myy, .int .i64 pyy] 72)).drew := ⟨_, rfl⟩
        rw [← hW2]
        have hb2 : Below W1.heap.size W1 W2 := by rw [hW2]; exact (boxed _ _).drew
        have hY : Has W2 W1.heap.size 72 #[.int .i64 ty, .int .i64 gyy, .int .i64 myy, .int .i64 pyy] := by rw [hW2]; exact Has.fresh W1 _ _
        have hX2 := HX.out.up hb2
        have HB2 := Lib.hid (up2 HB1.out hb2)
        replace c0 := kcell hb2 c0
        replace d0 := kcell hb2 d0
        have s0 : W2.cell? ⟨w.heap.size, 0, none⟩ = some (.int .i64 tx) := hX2.cell 0
        have s1 : W2.cell? ⟨w.heap.size, 1, none⟩ = some (.int .i64 gxx) := hX2.cell 1
        have t0 : W2.cell? ⟨W1.heap.size, 0, none⟩ = some (.int .i64 ty) := hY.cell 0
        have t1 : W2.cell? ⟨W1.heap.size, 1, none⟩ = some (.int .i64 gyy) := hY.cell 1
        clear hb2 hY hX2 hW2 n1' n2' n3' q0 y0 y1 y2 y3
        cases u1 : (tx == 1) with
        | true =>
          have hz1 : tx = 1 := by simpa using u1
          subst hz1
          cases u2 : (ty == 1) with
          | true =>
            have hz2 : ty = 1 := by simpa using u2
            have hRR : R = decide (gxx = gyy) := by have := HR.out; rw [if_pos ⟨rfl, hz2⟩] at this; exact this
            subst hRR
            go_wp2_with fail
            go_ret
            exact ⟨rfl, HB2.out⟩
          | false =>
            have hz2 : ¬ ty = 1 := by simpa using u2
            have hRR : R = false := by have := HR.out; rw [if_neg (fun z => hz2 z.2)] at this; simpa using this
            subst hRR
            have u3 : ((1 : Int) == 2) = false := rfl
            go_wp2_with fail
            go_quiet (fail)
            go_wp2_with fail
            go_ret
            exact ⟨rfl, blw HB2.out _⟩
        | false =>
          have hz1 : ¬ tx = 1 := by simpa using u1
          have hRR : R = (decide (tx = 2) && decide ((gx : Int) = (gy : Int))) := by have := HR.out; rw [if_neg (fun z => hz1 z.1)] at this; exact this
          cases u3 : (tx == 2) with
          | true =>
            have hz2 : tx = 2 := by simpa using u3
            subst hz2
            have hRR : R = decide ((gx : Int) = (gy : Int)) := by rw [hRR]; simp
            subst hRR
            go_wp2_with fail
            go_quiet (fail)
            go_wp2_with fail
            go_ret
            exact ⟨rfl, blw HB2.out _⟩
          | false =>
            have hz2 : ¬ tx = 2 := by simpa using u3
            have hRR : R = false := by rw [hRR]; simp [hz2]
            subst hRR
            clear hz1 hz2 hRR HR
            go_wp2_with fail
            go_quiet (fail)
            go_wp2_with fail
            go_ret
            exact ⟨rfl, blw HB2.out _⟩
end
end Go.Proofs.YtklaonoekmhakaaGreat

namespace Go.Proofs.YtklaonoekmhakaaGreat
open Go.RowKit

end Go.Proofs.YtklaonoekmhakaaGreat

namespace Go.Proofs.YtklaonoekmhakaaGreat
open Go.RowKit

def setAll (S : Bs) (l : List Pc) : Bs := l.foldl (fun S x => setS S x.it x.dy x.n) S
theorem pc_at {w : World} {a : Option Addr} {l : List Pc} (h : PcA w a l) {j : Nat} {x : Pc} (hx : l[j]? = some x) : ∃ b o, a = some ⟨b, o, none⟩ ∧ w.cell? ⟨b, o + j * 3, none⟩ = some (.int .i64 x.it) ∧ w.cell? ⟨b, o + j * 3 + 1, none⟩ = some (.int .i64 x.dy) ∧ w.cell? ⟨b, o + j * 3 + 2, none⟩ = some (.int .i64 x.n) := by
  rcases h with z | ⟨b, o, z, hz⟩
  · rw [z] at hx; simp at hx
  · exact ⟨b, o, z, hz j x hx 0 _ rfl, hz j x hx 1 _ rfl, hz j x hx 2 _ rfl⟩

end Go.Proofs.YtklaonoekmhakaaGreat

namespace Go.Proofs.YtklaonoekmhakaaGreat
open Go.RowKit

theorem fold_take {α β : Type} (f : β → α → β) (a : β) {l : List α} {k : Nat} {x : α} (hx : l[k]? = some x) : (l.take (k + 1)).foldl f a = f ((l.take k).foldl f a) x := by
  rw [List.take_add_one, hx, List.foldl_append]; rfl
section
variable {w : World} {p : Nat} {S : Bs}
set_option maxRecDepth 100000 in
set_option maxHeartbeats 8000000 in
theorem qprice_any (i d : Int) (h : Rb w p S) (hl : S.L.length ≤ 1000) : Calls Tryz.prog 142 #[.pointer (some ⟨p, 0, none⟩), .int .i64 i, .int .i64 d] w (PriR w S i d) := by
  obtain ⟨qa, qc, la, lc, hx⟩ := h
  have c0 := hx.c0
  have c1 := hx.c1
  unfold PriR priV
  cases h1 : hasB S i with
  | false =>
    have hE : priE S i d = 5 := by unfold priE; rw [if_pos h1]
    rw [hE, if_neg (by omega)]
    have hno : ¬ (0 ≤ i ∧ i < S.I.length) := fun z => by rw [hasB_iff.2 z] at h1; cases h1
    by_cases q : i < 0
    · have t0 : decide (i < 0) = true := decide_eq_true q
      clear hx h1 hE hno q
      go_enter Tryz.func142, Tryz.ntmps142
      go_wp2_with fail
      go_ret2
      exact ⟨rfl, Below.refl _ _⟩
    · have t0 : decide (i < 0) = false := decide_eq_false q
      have t1 : decide ((S.I.length : Int) ≤ i) = true := decide_eq_true (by omega)
      clear hx h1 hE hno q
      go_enter Tryz.func142, Tryz.ntmps142
      go_wp2_with fail
      go_ret2
      exact ⟨rfl, Below.refl _ _⟩
  | true =>
    have hI := hasB_iff.1 h1
    have t0 : decide (i < 0) = false := decide_eq_false (by omega)
    have t1 : decide ((S.I.length : Int) ≤ i) = false := decide_eq_false (by omega)
    by_cases h2 : d < 0
    · have hE : priE S i d = 1 := by unfold priE; rw [if_neg (by rw [h1]; simp), if_pos h2]
      rw [hE, if_neg (by omega)]
      clear hx h1 hE
      go_enter Tryz.func142, Tryz.ntmps142
      go_wp2_with fail
      go_ret2
      exact ⟨rfl, Below.refl _ _⟩
    · have hE : priE S i d = 0 := by unfold priE; rw [if_neg (by rw [h1]; simp), if_neg h2]
      rw [hE, if_pos rfl]
      obtain ⟨g, rfl⟩ : ∃ g : Nat, i = g := ⟨i.toNat, by omega⟩
      have hg : g < S.I.length := by omega
      obtain ⟨y, hy⟩ : ∃ y, S.I[g]? = some y := ⟨S.I[g], List.getElem?_eq_getElem _⟩
      have hpri : pri0 S g = y.pri := by
        unfold pri0
        rw [show ((g : Int).toNat) = g by omega, hy]; rfl
      obtain ⟨b, o, ha, hc⟩ : ∃ b o, qa = some ⟨b, o, none⟩ ∧ ∀ i x, S.I[i]? = some x → ∀ j v, (Im.cells x)[j]? = some v → w.cell? ⟨b, o + i * 4 + j, none⟩ = some v := by
        rcases hx.items with z | z
        · rw [z] at hg; simp at hg
        · exact z
      subst ha
      have k3 : w.cell? ⟨b, o + g * 4 + 3, none⟩ = some (.int .i64 y.pri) := hc g y hy 3 _ rfl
      have HX := Lib.hid hx
      obtain ⟨m, hm⟩ : ∃ m, m = S.L.length := ⟨_, rfl⟩
      have HM := Lib.hid hm
      have HC1 := Lib.hid c1
      have hbest : ∀ k, k = m → ∀ B : Int × Int, (S.L.take k).foldl (bstep g d) (0, y.pri) = B → (best S g d).2 = B.2 := fun k hk B hB => by
        unfold best
        rw [hpri, ← hB, List.take_of_length_le (by omega)]
      have HBest := Lib.hid hbest
      rw [← hm] at hl c1
      clear hx h1 hE hI hpri hc hbest hy hm
      go_enter Tryz.func142, Tryz.ntmps142
      go_wp2_with fail
      clear k3
      go_loopw [8, 9, 10] (fun out last j wr => ∃ (k : Nat) (A B : Int), k ≤ m ∧ j = .int .i64 (k : Int) ∧ last = .int .i64 A ∧ out = .int .i64 B ∧ Hid ((S.L.take k).foldl (bstep g d) (0, y.pri) = (A, B)) ∧ Below w.heap.size w wr) (fun _ _ j _ => m - (intOf j).toNat)
      case atStart => exact ⟨0, 0, y.pri, Nat.zero_le _, rfl, rfl, rfl, rfl, Below.refl _ _⟩
      case round =>
        obtain ⟨k, A, B, hk, rfl, rfl, rfl, HF, hb⟩ := hrel
        have HB := Lib.hid hb
        have d1 := kcell hb c1
        clear hb
        by_cases hlt : k < m
        · obtain ⟨x, hxk⟩ : ∃ x, S.L[k]? = some x := ⟨S.L[k]'(by rw [← HM.out]; exact hlt), List.getElem?_eq_getElem _⟩
          obtain ⟨b2, o2, hab, e0, e1, e2⟩ := pc_at (HX.out.pcs.up HB.out) hxk
          subst hab
          have hnext := fold_take (bstep g d) (0, y.pri) hxk
          rw [HF.out] at hnext
          have HNx := Lib.hid hnext
          have HB1 : Hid (Below w.heap.size w (wr.alloc (.cells #[.int .i64 x.it, .int .i64 x.dy, .int .i64 x.n] 212))) := HB.out.alloc HB.out.size _
          clear hxk hnext
          by_cases q1 : x.it = g
          · have r1 : (x.it == (g : Int)) = true := by simpa using q1
            by_cases q2 : x.dy ≤ d
            · have r2 : decide (x.dy ≤ d) = true := decide_eq_true q2
              by_cases q3 : A < x.dy
              · have r3 : decide (A < x.dy) = true := decide_eq_true q3
                have hs : Hid ((S.L.take (k + 1)).foldl (bstep g d) (0, y.pri) = (x.dy, x.n)) := by
                  have := HNx.out
                  unfold bstep at this ⊢
                  rw [if_pos ⟨q1, q2, q3⟩] at this; exact this
                clear q1 q2 q3
                go_wp2_with fail
                go_roundw
                case rel => exact ⟨k + 1, x.dy, x.n, by omega, by go_num, rfl, rfl, hs, HB1.out⟩
                case measure => simp [intOf]; omega
              · have r3 : decide (A < x.dy) = false := decide_eq_false q3
                have hs : Hid ((S.L.take (k + 1)).foldl (bstep g d) (0, y.pri) = (A, B)) := by
                  have := HNx.out
                  unfold bstep at this ⊢
                  rw [if_neg (fun z => q3 z.2.2)] at this; exact this
                clear q1 q2 q3
                go_wp2_with fail
                go_roundw
                case rel => exact ⟨k + 1, A, B, by omega, by go_num, rfl, rfl, hs, HB1.out⟩
                case measure => simp [intOf]; omega
            · have r2 : decide (x.dy ≤ d) = false := decide_eq_false q2
              have hs : Hid ((S.L.take (k + 1)).foldl (bstep g d) (0, y.pri) = (A, B)) := by
                have := HNx.out
                unfold bstep at this ⊢
                rw [if_neg (fun z => q2 z.2.1)] at this; exact this
              clear q1 q2
              go_wp2_with fail
              go_roundw
              case rel => exact ⟨k + 1, A, B, by omega, by go_num, rfl, rfl, hs, HB1.out⟩
              case measure => simp [intOf]; omega
          · have r1 : (x.it == (g : Int)) = false := by simpa using q1
            have hs : Hid ((S.L.take (k + 1)).foldl (bstep g d) (0, y.pri) = (A, B)) := by
              have := HNx.out
              unfold bstep at this ⊢
              rw [if_neg (fun z => q1 z.1)] at this; exact this
            clear q1
            go_wp2_with fail
            go_roundw
            case rel => exact ⟨k + 1, A, B, by omega, by go_num, rfl, rfl, hs, HB1.out⟩
            case measure => simp [intOf]; omega
        · have hB := HBest.out k (by omega) (A, B) HF.out
          have HBV := Lib.hid hB
          clear hB
          go_wp2_with fail
          go_ret2
          exact ⟨by rw [HBV.out]; rfl, HB.out⟩
end
end Go.Proofs.YtklaonoekmhakaaGreat

namespace Go.Proofs.YtklaonoekmhakaaGreat
open Go.RowKit

/-- what the reference's Set answers, and leaves -/
def QSetR (w : World) (p : Nat) (S : Bs) (i d n : Int) (e : Ending) (w' : World) : Prop := e = .returned (.int .i64 (setE S i d n)) ∧ Rb w' p (setS S i d n) ∧ w.grownBy w' (some p)
section
variable {w : World} {p : Nat} {S : Bs}
theorem Rbx.set {w1 : World} {qa la A : Option Addr} {qc lc C m : Nat} {i d n : Int} (h : Rbx w p S qa qc la lc) (hb : Below w.heap.size w w1) (hm : m = S.L.length) (hE : setE S i d n = 0) (hp : PcA w1 A (S.L ++ [⟨i, d, n⟩])) (hn : A = none → C = 0) :
    Rb (w1.setCell ⟨p, 1, none⟩ (.slice A (m + 1) C)) p (setS S i d n) := by
  have h1 := h.up hb
  have hg := grown_set w1 p 1 (.slice A (m + 1) C)
  have hS : setS S i d n = setted S i d n := by unfold setS; rw [if_pos hE]
  rw [hS]
  refine ⟨qa, qc, A, C, ?_, h1.items.off im_int h1.noInt hg, hp.off pc_int h1.noInt hg, hn⟩
  have h2 := h1.book.put 1 (.slice A (m + 1) C)
  have e : (S.L ++ [(⟨i, d, n⟩ : Pc)]).length = m + 1 := by rw [hm]; simp
  show Has _ p _ #[.slice qa S.I.length qc, .slice A (S.L ++ [(⟨i, d, n⟩ : Pc)]).length C]
  rw [e]; exact h2
end
end Go.Proofs.YtklaonoekmhakaaGreat
