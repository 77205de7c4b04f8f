/- A span's earned, allotted; last, counting; Allotted, Since, Whole. -/
import Derived.Maps.AppendAt
import Derived.Test.YtklaonoekmhakaaGreatTrMem
import Derived.Test.YtklaonoekmhakaaGreatI
namespace Go.Proofs.YtklaonoekmhakaaGreat
open Go.RowKit

def Sp.val (x : Sp) : Value := .agg #[.int .i64 x.fr, .int .i64 x.og, .int .i64 x.ba, .int .i64 x.re]
/-- a span whose base and rest are an amount -/
structure SpG (x : Sp) : Prop where
  ba : 0 ≤ x.ba
  re : 0 ≤ x.re
  am : x.ba + x.re ≤ 9223372036854775807
theorem SpOk.g {x : Sp} (h : SpOk x) : SpG x := ⟨h.ba, h.re, h.am⟩
set_option maxRecDepth 100000 in
set_option maxHeartbeats 1000000 in
theorem spall_any (x : Sp) (h : SpG x) (w : World) : Calls Tryz.prog 85 #[x.val] w fun e w' => e = .returned (.int .i64 (x.ba + x.re)) ∧ Below w.heap.size w w' := by
  have h1 := h.ba
  have h2 := h.re
  have h3 := h.am
  obtain ⟨f, o, b, r⟩ := x
  unfold Sp.val
  simp only at h1 h2 h3 ⊢
  have HA := Lib.hid (fun (W : World) => add_any b r W (by omega) (by omega) (by omega) (by omega))
  rw [tellV_in (show Am (b + r) by unfold Am; omega), tellE_in (show Am (b + r) by unfold Am; omega)] at HA
  clear h h1 h2 h3
  go_enter Tryz.func85, Tryz.ntmps85
  go_wp2_with fail
  refine (HA.out _).mono ?_
  rintro e w1 ⟨rfl, hb⟩
  have HB := Lib.hid (up2 (boxed _ _) hb)
  clear hb
  go_wp2_with fail
  go_ret
  exact ⟨rfl, HB.out⟩
/-- what a span has earned -/
def spE (x : Sp) (n m : Int) : Int := if m = 0 then x.ba + x.re else x.ba + x.re * n / m
set_option maxRecDepth 100000 in
set_option maxHeartbeats 2000000 in
theorem spear_any (x : Sp) (h : SpG x) (n m : Int) (h0 : 0 ≤ n) (h1 : n ≤ m) (h2 : m ≤ 9223372036854775807) (w : World) : Calls Tryz.prog 88 #[x.val, .int .i64 n, .int .i64 m] w fun e w' => e = .returned (.int .i64 (spE x n m)) ∧ Below w.heap.size w w' := by
  have HS := Lib.hid (fun (W : World) => spall_any x h W)
  have g1 := h.ba
  have g2 := h.re
  have g3 := h.am
  obtain ⟨f, o, b, r⟩ := x
  unfold Sp.val at HS ⊢
  unfold spE
  simp only at g1 g2 g3 HS ⊢
  by_cases q : m = 0
  · rw [if_pos q]
    subst q
    clear h g1 g2 g3 h0 h1 h2
    go_enter Tryz.func88, Tryz.ntmps88
    go_wp2_with fail
    refine (HS.out _).mono ?_
    rintro e w1 ⟨rfl, hb⟩
    have HB := Lib.hid (up2 (boxed _ _) hb)
    clear hb
    go_wp2_with fail
    go_ret
    exact ⟨rfl, HB.out⟩
  · rw [if_neg q]
    have hp := pos_part (re := r) (p := n) (W := m) g2 h0 (by omega) h1
    have HP := Lib.hid (fun (W : World) => part_any r n m W (by omega) (by omega) h0 (by omega) (by omega) h2)
    rw [tellV_in (show Am (r * n / m) by unfold Am; omega), tellE_in (show Am (r * n / m) by unfold Am; omega)] at HP
    generalize r * n / m = v at hp HP ⊢
    have HA := Lib.hid (fun (W : World) => add_any b v W (by omega) (by omega) (by omega) (by omega))
    rw [tellV_in (show Am (b + v) by unfold Am; omega), tellE_in (show Am (b + v) by unfold Am; omega)] at HA
    clear h g1 g2 g3 h0 h1 h2 hp HS
    go_enter Tryz.func88, Tryz.ntmps88
    go_wp2_with fail
    have HX := Lib.hid (Has.fresh w 147 #[.int .i64 f, .int .i64 o, .int .i64 b, .int .i64 r])
    refine (HP.out _).mono ?_
    rintro e w1 ⟨rfl, hb⟩
    have hx := HX.out.up hb
    have x2 := hx.cell 2
    simp at x2
    have HB := Lib.hid (up2 (boxed _ _) hb)
    clear hb hx
    go_wp2_with fail
    refine (HA.out _).mono ?_
    rintro e w2 ⟨rfl, hb⟩
    have HB2 := Lib.hid (up2 HB.out hb)
    clear hb x2
    go_wp2_with fail
    go_ret
    exact ⟨rfl, HB2.out⟩
theorem sp_last {L : List Sp} (h : L ≠ []) : L[L.length - 1]? = some (lastS L) := by
  unfold lastS
  rw [List.getLastD_eq_getLast?, List.getLast?_eq_getElem?]
  rw [List.getElem?_eq_getElem (by have := List.length_pos_iff.2 h; omega)]
  rfl
/-- all four cells of a block written -/
def put4 (w : World) (g : Nat) (b0 b1 b2 b3 : Value) : World :=
  (((w.setCell ⟨g, 0, none⟩ b0).setCell ⟨g, 1, none⟩ b1).setCell ⟨g, 2, none⟩ b2).setCell ⟨g, 3, none⟩ b3
theorem put4_has {w : World} {g T : Nat} {a0 a1 a2 a3 : Value} (h : Has w g T #[a0, a1, a2, a3]) (b0 b1 b2 b3 : Value) : Has (put4 w g b0 b1 b2 b3) g T #[b0, b1, b2, b3] :=
  (((h.put 0 b0).put 1 b1).put 2 b2).put 3 b3
theorem put4_grown (w : World) (g : Nat) (b0 b1 b2 b3 : Value) : w.grownBy (put4 w g b0 b1 b2 b3) (some g) :=
  grown_trans (grown_trans (grown_trans (grown_set _ _ _ _) (grown_set _ _ _ _)) (grown_set _ _ _ _)) (grown_set _ _ _ _)
section
variable {w : World} {O : Nat → Prop} {b p : Nat} {d : Dt} {E : List Tl} {L : List Sp} {la : Option Addr} {lc : Nat} {tv sv : Value}
set_option maxRecDepth 100000 in
set_option maxHeartbeats 4000000 in
theorem tlast_any (h : TkX w O b p d E L la lc tv sv) : Calls Tryz.prog 84 #[.pointer (some ⟨b, 0, none⟩)] w fun e w' => e = .returned (lastS L).val ∧ Below w.heap.size w w' := by
  obtain ⟨a, c, rfl, hrow⟩ := h.row
  have hpos := List.length_pos_iff.2 h.fine.some
  have hlen := h.fine.len
  obtain ⟨g, o, rfl, z0, z1, z2, z3⟩ := sp_at hrow (sp_last h.fine.some)
  have c1 := h.has.cell 1
  simp at c1
  obtain ⟨⟨f, og, ba, re⟩, hx⟩ : ∃ x, x = lastS L := ⟨_, rfl⟩
  rw [← hx] at z0 z1 z2 z3 ⊢
  unfold Sp.val
  simp only at z0 z1 z2 z3 ⊢
  obtain ⟨n, hn⟩ : ∃ n, n = L.length := ⟨_, rfl⟩
  rw [← hn] at c1 hpos hlen z0 z1 z2 z3
  obtain ⟨t, ht⟩ : ∃ t, t = n - 1 := ⟨_, rfl⟩
  rw [← ht] at z0 z1 z2 z3
  have e1 : IntKind.i64.wrap ((n : Int) - 1) = (t : Int) := by rw [IntWalk.i64_in _ (by omega)]; omega
  have t1 : t < n := by omega
  have i0 : (0 : Int) ≤ (t : Int) := by omega
  have i1 : (t : Int) < (n : Int) := by omega
  clear h hrow hx hn ht hpos hlen
  go_enter Tryz.func84, Tryz.ntmps84
  go_wp2_with fail
  obtain ⟨W0, hW0⟩ : ∃ W0, W0 = w.alloc (.cells #[.int .i64 0, .int .i64 0, .int .i64 0, .int .i64 0] 147) := ⟨_, rfl⟩
  have hb0 : Below w.heap.size w W0 := by rw [hW0]; exact boxed _ _
  have hy : Has W0 w.heap.size 147 #[.int .i64 0, .int .i64 0, .int .i64 0, .int .i64 0] := by rw [hW0]; exact Has.fresh _ _ _
  rw [← hW0]
  have c1 := kcell hb0 c1
  have z0 := kcell hb0 z0
  have z1 := kcell hb0 z1
  have z2 := kcell hb0 z2
  have z3 := kcell hb0 z3
  have y0 := hy.cell 0
  have y1 := hy.cell 1
  have y2 := hy.cell 2
  have y3 := hy.cell 3
  have f0 := hy.free 0
  have f1 := hy.free 1
  have f2 := hy.free 2
  have f3 := hy.free 3
  simp at y0 y1 y2 y3
  have HB := Lib.hid hb0
  have HY := Lib.hid hy
  clear hW0 hb0 hy
  go_region
  obtain ⟨W1, hW1⟩ : ∃ W1, W1 = put4 W0 w.heap.size (.int .i64 f) (.int .i64 og) (.int .i64 ba) (.int .i64 re) := ⟨_, rfl⟩
  have hf := put4_has HY.out (.int .i64 f) (.int .i64 og) (.int .i64 ba) (.int .i64 re)
  have hg := put4_grown W0 w.heap.size (.int .i64 f) (.int .i64 og) (.int .i64 ba) (.int .i64 re)
  rw [← hW1] at hf hg
  have hbf := HB.out.grown hg HB.out.size (fun j hj => by injection hj with hj; omega)
  have r0 : W1.drew.cell? ⟨w.heap.size, 0, none⟩ = some (.int .i64 f) := hf.cell 0
  have r1 : W1.drew.cell? ⟨w.heap.size, 1, none⟩ = some (.int .i64 og) := hf.cell 1
  have r2 : W1.drew.cell? ⟨w.heap.size, 2, none⟩ = some (.int .i64 ba) := hf.cell 2
  have r3 : W1.drew.cell? ⟨w.heap.size, 3, none⟩ = some (.int .i64 re) := hf.cell 3
  unfold put4 at hW1
  rw [← hW1]
  clear hf hg y0 y1 y2 y3 f0 f1 f2 f3 c1 z0 z1 z2 z3 e1 t1 i0 i1 hW1
  go_wp2_with fail
  exact bodyPost_ret (v := .agg #[.int .i64 f, .int .i64 og, .int .i64 ba, .int .i64 re]) (by simp [results, Tryz.results84, go_sem, r0, r1, r2, r3]) rfl ⟨rfl, hbf.drew⟩
end
theorem cntS_app2 (day : Int) (x : Sp) (A B : List Sp) : cntS day x (A ++ B) = cntS day (cntS day x A) B := by
  induction A generalizing x with
  | nil => rfl
  | cons y A ih => exact ih _
theorem cntS_none (day : Int) (x : Sp) (A : List Sp) (h : ∀ y ∈ A, day < y.fr) : cntS day x A = x := by
  induction A generalizing x with
  | nil => rfl
  | cons y A ih =>
    unfold cntS
    rw [if_neg (by have := h y (by simp); omega)]
    exact ih _ fun z hz => h z (List.mem_cons_of_mem _ hz)
/-- which one counts, by places -/
theorem cnt_at {L : List Sp} {day : Int} {k : Nat} {x : Sp} (hx : L[k]? = some x) (h1 : k = 0 ∨ x.fr ≤ day) (h2 : ∀ j y, k < j → L[j]? = some y → day < y.fr) : cnt L day = x := by
  obtain ⟨hk, e⟩ := List.getElem?_eq_some_iff.1 hx
  have hs : L = L.take k ++ x :: L.drop (k + 1) := by
    rw [← e, List.getElem_cons_drop, List.take_append_drop]
  have hn : ∀ z, cntS day z (L.drop (k + 1)) = z := fun z => cntS_none day z _ fun y hy => by
    obtain ⟨j, hj⟩ := List.getElem?_of_mem hy
    rw [List.getElem?_drop] at hj
    exact h2 _ y (by omega) hj
  unfold cnt
  rcases h1 with rfl | h1
  · cases L with
    | nil => simp at hx
    | cons y l =>
      obtain rfl : y = x := by simpa using hx
      simp only [List.headD_cons, cntS]
      have := hn y
      simp only [List.drop_succ_cons, List.drop_zero] at this
      rw [ite_self, this]
  · rw [show cntS day (L.headD sp0) L = cntS day (L.headD sp0) (L.take k ++ x :: L.drop (k + 1)) by rw [← hs], cntS_app2]
    simp only [cntS]
    rw [if_pos h1, hn]
section
variable {w : World} {O : Nat → Prop} {b p : Nat} {d : Dt} {E : List Tl} {L : List Sp} {la : Option Addr} {lc : Nat} {tv sv : Value}
set_option maxRecDepth 100000 in
set_option maxHeartbeats 4000000 in
theorem tcount_any (h : TkX w O b p d E L la lc tv sv) (day : Int) : Calls Tryz.prog 86 #[.pointer (some ⟨b, 0, none⟩), .int .i64 day] w fun e w' => e = .returned (cnt L day).val ∧ Below w.heap.size w w' := by
  obtain ⟨a, c, rfl, hrow⟩ := h.row
  have hpos := List.length_pos_iff.2 h.fine.some
  have hlen := h.fine.len
  have HR := Lib.hid hrow
  have c1 := h.has.cell 1
  simp at c1
  obtain ⟨n, hn⟩ : ∃ n, n = L.length := ⟨_, rfl⟩
  have HN := Lib.hid hn
  rw [← hn] at c1 hpos hlen
  obtain ⟨t, ht⟩ : ∃ t, t = n - 1 := ⟨_, rfl⟩
  have e1 : IntKind.i64.wrap ((n : Int) - 1) = (t : Int) := by rw [IntWalk.i64_in _ (by omega)]; omega
  have t1 : t < n := by omega
  have HT := Lib.hid ht
  have HPo := Lib.hid hpos
  have hlt := h.has.lt
  clear h hrow hn ht hpos
  go_enter Tryz.func86, Tryz.ntmps86
  go_wp2_with fail
  obtain ⟨W0, hW0⟩ : ∃ W0, W0 = w.alloc (.cells #[.int .i64 0, .int .i64 0, .int .i64 0, .int .i64 0] 147) := ⟨_, rfl⟩
  have hb0 : Below w.heap.size w W0 := by rw [hW0]; exact boxed _ _
  have hy : Has W0 w.heap.size 147 #[.int .i64 0, .int .i64 0, .int .i64 0, .int .i64 0] := by rw [hW0]; exact Has.fresh _ _ _
  rw [← hW0]
  have c1 := kcell hb0 c1
  have HB := Lib.hid hb0
  have HY := Lib.hid hy
  clear hW0 hb0 hy e1 hlt
  go_loopw [5] (fun i wr => ∃ k : Nat, k < n ∧ i = .int .i64 (k : Int) ∧ Hid (∀ j y, k < j → L[j]? = some y → day < y.fr) ∧ wr = W0) (fun i _ => (intOf i).toNat)
  case atStart => exact ⟨t, t1, rfl, Lib.hid fun j y hj hy => by have := (List.getElem?_eq_some_iff.1 hy).1; rw [← HN.out] at this; have := HT.out; omega, rfl⟩
  case round =>
    obtain ⟨k, hk, rfl, HAll, rfl⟩ := hrel
    obtain ⟨x, hx⟩ : ∃ x, L[k]? = some x := ⟨L[k]'(by rw [← HN.out]; exact hk), List.getElem?_eq_getElem _⟩
    obtain ⟨g, o, rfl, z0, z1, z2, z3⟩ := sp_at (HR.out.up HB.out) hx
    have HX := Lib.hid hx
    have i0 : (0 : Int) ≤ (k : Int) := by omega
    have i1 : (k : Int) < (n : Int) := by omega
    by_cases q : 0 < k ∧ day < x.fr
    · obtain ⟨q1, q2⟩ := q
      have q1' : (0 : Int) < (k : Int) := by omega
      have e1 : IntKind.i64.wrap ((k : Int) - 1) = (k : Int) - 1 := IntWalk.i64_in _ (by omega)
      have HQ := Lib.hid q2
      obtain ⟨f, og, ba, re⟩ := x
      simp only at z0 z1 z2 z3 q2
      clear hx
      go_wp2_with fail
      exact ⟨⟨k - 1, by omega, by congr 1; omega, Lib.hid fun j y hj hy => (by
        by_cases e : j = k
        · subst e
          have e2 := HX.out.symm.trans hy
          injection e2 with e2
          rw [← e2]; exact HQ.out
        · exact HAll.out j y (by omega) hy), trivial⟩, by simp [intOf]; omega⟩
    · have hq : k = 0 ∨ x.fr ≤ day := by
        by_cases e : k = 0
        · exact .inl e
        · exact .inr (by have : ¬ (0 < k ∧ day < x.fr) := q; omega)
      have hc : cnt L day = x := cnt_at HX.out hq HAll.out
      have HC := Lib.hid hc
      obtain ⟨f, og, ba, re⟩ := x
      simp only at z0 z1 z2 z3 hq
      have hy := HY.out
      have y0 := hy.cell 0
      have y1 := hy.cell 1
      have y2 := hy.cell 2
      have y3 := hy.cell 3
      have f0 := hy.free 0
      have f1 := hy.free 1
      have f2 := hy.free 2
      have f3 := hy.free 3
      simp at y0 y1 y2 y3
      have hf := put4_has HY.out (.int .i64 f) (.int .i64 og) (.int .i64 ba) (.int .i64 re)
      have hg := put4_grown wr w.heap.size (.int .i64 f) (.int .i64 og) (.int .i64 ba) (.int .i64 re)
      have HF := Lib.hid hf
      have HG := Lib.hid hg
      clear hx hc hy hf hg
      by_cases e : k = 0
      · have e' : ¬ (0 : Int) < (k : Int) := by omega
        clear q hq e
        go_wp2_with fail
        obtain ⟨W1, hW1⟩ : ∃ W1, W1 = put4 wr w.heap.size (.int .i64 f) (.int .i64 og) (.int .i64 ba) (.int .i64 re) := ⟨_, rfl⟩
        have hf := HF.out
        have hg := HG.out
        rw [← hW1] at hf hg
        have hbf := HB.out.grown hg HB.out.size (fun j hj => by injection hj with hj; omega)
        have r0 := hf.cell 0
        have r1 := hf.cell 1
        have r2 := hf.cell 2
        have r3 := hf.cell 3
        simp at r0 r1 r2 r3
        unfold put4 at hW1
        rw [← hW1]
        refine bodyPost_ret (v := .agg #[.int .i64 f, .int .i64 og, .int .i64 ba, .int .i64 re]) (by simp [results, Tryz.results86, go_sem, r0, r1, r2, r3]) rfl ⟨?_, hbf⟩
        rw [HC.out]; rfl
      · have e' : (0 : Int) < (k : Int) := by omega
        have q' : ¬ day < f := by have := q; simp only at this; omega
        clear q hq e
        go_wp2_with fail
        obtain ⟨W1, hW1⟩ : ∃ W1, W1 = put4 wr w.heap.size (.int .i64 f) (.int .i64 og) (.int .i64 ba) (.int .i64 re) := ⟨_, rfl⟩
        have hf := HF.out
        have hg := HG.out
        rw [← hW1] at hf hg
        have hbf := HB.out.grown hg HB.out.size (fun j hj => by injection hj with hj; omega)
        have r0 := hf.cell 0
        have r1 := hf.cell 1
        have r2 := hf.cell 2
        have r3 := hf.cell 3
        simp at r0 r1 r2 r3
        unfold put4 at hW1
        rw [← hW1]
        refine bodyPost_ret (v := .agg #[.int .i64 f, .int .i64 og, .int .i64 ba, .int .i64 re]) (by simp [results, Tryz.results86, go_sem, r0, r1, r2, r3]) rfl ⟨?_, hbf⟩
        rw [HC.out]; rfl
set_option maxRecDepth 100000 in
set_option maxHeartbeats 1000000 in
theorem tallot_any (h : TkX w O b p d E L la lc tv sv) : Calls Tryz.prog 46 #[.pointer (some ⟨b, 0, none⟩)] w fun e w' => e = .returned (.int .i64 (altV L)) ∧ Below w.heap.size w w' := by
  have HL := Lib.hid (tlast_any h)
  have HS := Lib.hid (fun (W : World) => spall_any (lastS L) (h.fine.ok _ (lastS_mem h.fine.some)).g W)
  unfold altV
  generalize (lastS L).ba + (lastS L).re = v at HS ⊢
  generalize (lastS L) = x at HL HS ⊢
  obtain ⟨f, og, ba, re⟩ := x
  unfold Sp.val at HL HS
  simp only at HL HS
  clear h
  go_enter Tryz.func46, Tryz.ntmps46
  go_wp2_with fail
  refine HL.out.mono ?_
  rintro e w1 ⟨rfl, hb⟩
  have HB := Lib.hid hb
  clear hb
  go_wp2_with fail
  refine (HS.out _).mono ?_
  rintro e w2 ⟨rfl, hb⟩
  have HB2 := Lib.hid (up2 HB.out hb)
  clear hb
  go_wp2_with fail
  go_ret
  exact ⟨rfl, HB2.out⟩
set_option maxRecDepth 100000 in
set_option maxHeartbeats 1000000 in
theorem tsince_any (h : TkX w O b p d E L la lc tv sv) : Calls Tryz.prog 126 #[.pointer (some ⟨b, 0, none⟩)] w fun e w' => e = .returned (.int .i64 (lastS L).fr) ∧ Below w.heap.size w w' := by
  have HL := Lib.hid (tlast_any h)
  generalize (lastS L) = x at HL ⊢
  obtain ⟨f, og, ba, re⟩ := x
  unfold Sp.val at HL
  simp only at HL ⊢
  clear h
  go_enter Tryz.func126, Tryz.ntmps126
  go_wp2_with fail
  refine HL.out.mono ?_
  rintro e w1 ⟨rfl, hb⟩
  have HB := Lib.hid hb
  clear hb
  have hfld : ∀ W : World, (Instr.field 147 (.agg #[.int .i64 f, .int .i64 og, .int .i64 ba, .int .i64 re]) 0).run Tryz.prog W = .ok (.int .i64 f) W := fun _ => by kernel_rfl
  go_wp2_with fail
  go_ret
  exact ⟨rfl, HB.out⟩
set_option maxRecDepth 100000 in
set_option maxHeartbeats 1000000 in
theorem twhole_any (h : TkX w O b p d E L la lc tv sv) (day : Int) : Calls Tryz.prog 94 #[.pointer (some ⟨b, 0, none⟩), .int .i64 day] w fun e w' => e = .returned (.bool (thrV d E day == thrW d)) ∧ Below w.heap.size w w' := by
  have HT := Lib.hid (thr_any h.log day)
  unfold ThrR at HT
  have c0 := h.has.cell 0
  simp at c0
  generalize thrV d E day = v at HT ⊢
  generalize thrW d = m at HT ⊢
  clear h
  go_enter Tryz.func94, Tryz.ntmps94
  go_wp2_with fail
  refine HT.out.mono ?_
  rintro e w1 ⟨rfl, hb⟩
  have HB := Lib.hid hb
  clear hb c0
  go_wp2_with fail
  go_ret
  exact ⟨rfl, HB.out⟩
end
end Go.Proofs.YtklaonoekmhakaaGreat

namespace Go.Proofs.YtklaonoekmhakaaGreat
open Go.RowKit

theorem thrW_am {d : Dt} (h : dtB d = true) (hu : d.un ≤ 9223372036854775807) : thrW d ≤ 9223372036854775807 := by
  have := dtB_iff.1 h
  unfold thrW; (repeat' split) <;> omega
/-- what is earned, by what is done -/
theorem earS_is {d : Dt} {E : List Tl} {L : List Sp} (h : FineS L) (hE : FineT d E) (day : Int) : earV d E L day = spE (cnt L day) (thrV d E day - thrV d E (cnt L day).og) (thrW d - thrV d E (cnt L day).og) := by
  have h0 := h.origin hE day
  unfold earV earS spE
  by_cases q : thrW d = thrV d E (cnt L day).og
  · rw [if_pos q, if_pos (by omega)]
  · rw [if_neg q, if_neg (by omega), show max (thrV d E day - thrV d E (cnt L day).og) 0 = thrV d E day - thrV d E (cnt L day).og by omega]
section
variable {w : World} {O : Nat → Prop} {b p : Nat} {d : Dt} {E : List Tl} {L : List Sp} {la : Option Addr} {lc : Nat} {tv sv : Value}
set_option maxRecDepth 100000 in
set_option maxHeartbeats 4000000 in
theorem tearned_any (h : TkX w O b p d E L la lc tv sv) (day : Int) : Calls Tryz.prog 48 #[.pointer (some ⟨b, 0, none⟩), .int .i64 day] w fun e w' => e = .returned (.int .i64 (earV d E L day)) ∧ Below w.heap.size w w' := by
  rw [earS_is h.fine h.log.fine day]
  have HC := Lib.hid (tcount_any h day)
  have hx := h.fine.ok _ (cnt_mem h.fine.some day)
  have ho := h.fine.origin h.log.fine day
  have HS := Lib.hid (fun (n m : Int) h0 h1 h2 (W : World) => spear_any (cnt L day) hx.g n m h0 h1 h2 W)
  have HThr := Lib.hid (fun (W : World) (q : Below w.heap.size w W) (a : Int) => thr_any (h.log.up q) a)
  unfold ThrR at HThr
  have i0 := thr_in h.log.fine day
  have i1 := thr_in h.log.fine (cnt L day).og
  have i2 := thrW_am h.log.fine.may h.un
  have c0 := h.has.cell 0
  simp at c0
  have hlt := h.has.lt
  have HC0 := Lib.hid c0
  generalize cnt L day = x at HC HS ho i1 ⊢
  clear hx
  obtain ⟨f, og, ba, re⟩ := x
  unfold Sp.val at HC HS
  simp only at HC HS ho i1 ⊢
  obtain ⟨B, hB⟩ : ∃ B, B = thrV d E day := ⟨_, rfl⟩
  obtain ⟨A, hA⟩ : ∃ A, A = thrV d E og := ⟨_, rfl⟩
  have HB' := Lib.hid hB
  have HA' := Lib.hid hA
  rw [← hA] at ho i1 ⊢
  rw [← hB] at ho i0 ⊢
  generalize thrW d = m at HThr i0 i1 i2 ⊢
  have e1 : IntKind.i64.wrap (B - A) = B - A := IntWalk.i64_in _ (by omega)
  have e2 : IntKind.i64.wrap (m - A) = m - A := IntWalk.i64_in _ (by omega)
  have HS1 := Lib.hid (fun (W : World) => HS.out (B - A) (m - A) (by omega) (by omega) (by omega) W)
  generalize spE ⟨f, og, ba, re⟩ (B - A) (m - A) = v at HS1 ⊢
  clear h ho i0 i1 i2 hA hB HS c0
  go_enter Tryz.func48, Tryz.ntmps48
  go_wp2_with fail
  refine HC.out.mono ?_
  rintro e w1 ⟨rfl, hb1⟩
  have HB1 := Lib.hid hb1
  clear hb1
  go_wp2_with fail
  obtain ⟨W2, hW2⟩ : ∃ W2, W2 = w1.alloc (.cells #[.int .i64 f, .int .i64 og, .int .i64 ba, .int .i64 re] 147) := ⟨_, rfl⟩
  have hf : Has W2 w1.heap.size 147 #[.int .i64 f, .int .i64 og, .int .i64 ba, .int .i64 re] := by rw [hW2]; exact Has.fresh _ _ _
  have HB2 : Hid (Below w.heap.size w W2) := by rw [hW2]; exact Lib.hid (up2 HB1.out (boxed _ _))
  have HF := Lib.hid hf
  rw [← hW2]
  clear hf hW2 hlt
  obtain ⟨g, hg⟩ : ∃ g, g = w1.heap.size := ⟨_, rfl⟩
  rw [← hg] at HF ⊢
  have K0 : Hid (W2.drew.cell? ⟨b, 0, none⟩ = some (.pointer (some ⟨p, 0, none⟩)) ∧ W2.drew.cell? ⟨g, 1, none⟩ = some (.int .i64 og)) := Lib.hid ⟨kcell HB2.out.drew HC0.out, HF.out.cell 1⟩
  have HCall := Lib.hid (HThr.out W2.drew HB2.out.drew og)
  rw [← HA'.out] at HCall
  clear hg
  go_region_held3 (fun w' => w'.cell? ⟨b, 0, none⟩ = some (.pointer (some ⟨p, 0, none⟩)) ∧ w'.cell? ⟨g, 1, none⟩ = some (.int .i64 og))
    (first | (go_keep; done) | (with_reducible exact K0.out) | (with_reducible exact kK1.out))
    (first | (go_at_call 87; (with_reducible refine (HCall.out).mono ?_); rintro e w3 ⟨rfl, hb3⟩; have kK1 : Hid (w3.cell? ⟨b, 0, none⟩ = some (.pointer (some ⟨p, 0, none⟩)) ∧ w3.cell? ⟨g, 1, none⟩ = some (.int .i64 og)) := Lib.hid ⟨kcell hb3 K0.out.1, kcell hb3 K0.out.2⟩; have kB3 := Lib.hid (up2 HB2.out.drew hb3); have kF3 := Lib.hid ((HF.out.up (Below.refl _ _).drew).up hb3); clear hb3))
  all_goals
    have c0 := kK1.out.1
    go_wp2_with fail
    refine (HThr.out _ kB3.out day).mono ?_
    rintro e w4 ⟨rfl, hb4⟩
    rw [← HB'.out]
    have hx := kF3.out.up hb4
    have x0 := hx.cell 0
    have x1 := hx.cell 1
    have x2 := hx.cell 2
    have x3 := hx.cell 3
    simp at x0 x1 x2 x3
    have HB4 := Lib.hid (up2 kB3.out hb4)
    clear hb4 hx c0
    go_wp2_with fail
    refine (HS1.out _).mono ?_
    rintro e w5 ⟨rfl, hb5⟩
    have HB5 := Lib.hid (up2 HB4.out hb5)
    clear hb5
    go_wp2_with fail
    go_ret
    exact ⟨rfl, HB5.out⟩
end
end Go.Proofs.YtklaonoekmhakaaGreat

namespace Go.Proofs.YtklaonoekmhakaaGreat
open Go.RowKit

theorem infoSpan : (Tryz.prog.info? 147).map (fun i => (i.zero, i.size, i.bytes)) = some (some (.agg #[.int .i64 0, .int .i64 0, .int .i64 0, .int .i64 0]), 4, 32) := by kernel_rfl
/-- why a span isn't added, and what there is then -/
def chgE (L : List Sp) (x : Sp) (n : Int) : Int := if mayS L x.fr ≠ 0 then mayS L x.fr else if n < x.ba then 1 else 0
def chgS (L : List Sp) (x : Sp) (n : Int) : List Sp := if chgE L x n = 0 then L ++ [⟨x.fr, x.og, x.ba, n - x.ba⟩] else L
section
variable {w w' w2 : World} {O : Nat → Prop} {b p : Nat} {d : Dt} {E E2 : List Tl} {L L2 : List Sp} {la : Option Addr} {lc : Nat} {tv sv : Value}
theorem TkR.from (hb : Below w.heap.size w w') (hl : ∀ g, O g → g < w.heap.size) (h : TkR w' O b d E L w2) : TkR w O b d E L w2 :=
  ⟨h.1.mono (fun _ hg => hg.elim .inl fun z => .inr ⟨Nat.le_trans hb.size z.1, z.2⟩) (fun _ hg => hg.elim (fun z => Nat.lt_of_lt_of_le (Nat.lt_of_lt_of_le (hl _ z) hb.size) h.2.1.size) fun z => z.2),
    (Kp.of hb).trans h.2.1 (fun _ q => .inl q), (Oth15.of hb).trans h.2.2⟩
theorem TkR.then (h : TkR w O b d E L w') (hb : Below w'.heap.size w' w2) : TkR w O b d E L w2 :=
  ⟨(h.1.up hb).mono (fun _ hg => hg.imp id fun z => ⟨z.1, Nat.lt_of_lt_of_le z.2 hb.size⟩) (fun _ hg => hg.elim (fun z => Nat.lt_of_lt_of_le (h.1.lt _ (.inl z)) hb.size) fun z => z.2),
    h.2.1.trans (Kp.of (O := O) hb) (fun _ q => .inl q), h.2.2.trans (Oth15.of hb)⟩
/-- a span more -/
theorem TkX.push (h : TkX w O b p d E L la lc tv sv) {x : Sp} (hm : mayS L x.fr = 0) (hx : SpOk x) {y : Nat} (hy : Has w y 147 #[.int .i64 x.fr, .int .i64 x.og, .int .i64 x.ba, .int .i64 x.re]) :
    ∃ a c a' c' w', sv = .slice a L.length c ∧ (Builtin.append_ #[99, 99] 99 #[.slice a L.length c, .slice (some ⟨y, 0, none⟩) 1 1]).run Tryz.prog w = .ok (.slice a' (L.length + 1) c') w' ∧ w'.cell? ⟨b, 1, none⟩ = some sv ∧ w'.frozen? ⟨b, 1, none⟩ = false ∧ TkR w O b d E (L ++ [x]) (w'.setCell ⟨b, 1, none⟩ (.slice a' (L.length + 1) c')) := by
  obtain ⟨a, c, rfl, _, _⟩ := own_form3 h.own
  obtain ⟨i, hi, hz0, hz1, hz2⟩ := info_parts infoSpan
  have hlen := h.fine.len
  obtain ⟨v', w', hr, ho, hg, _, hat⟩ := run_append_own_at (P := Tryz.prog) w 0 99 99 147 i _ 4 32 Tryz.underlying99 hi hz0 hz1 hz2 rfl (by decide) _ L.length _ h.own ⟨y, 0, none⟩ 1 1 (spC x) rfl
    (fun j u hu => by
      rw [addr_off, Nat.zero_add, hy.cell]
      exact (List.getElem?_toArray (xs := spC x) (i := j)).trans hu)
    (fun u hu => by simp [spC] at hu; rcases hu with rfl | rfl | rfl | rfl <;> rfl) (by unfold maxLen; omega) (by omega) (Nat.zero_le _)
  obtain ⟨a', c', rfl⟩ := own_formb ho
  have hbne : (Value.slice a L.length c).ownBlock ≠ some b := own_ne h.own h.has (by decide)
  have hpne : (Value.slice a L.length c).ownBlock ≠ some p := own_ne h.own h.log.has (by decide)
  have hb' : Has w' b 101 _ := (hg.block b h.has.lt (fun e => hbne e.symm)).trans h.has
  have hs := hb'.put 1 (.slice a' (L.length + 1) c')
  have hset := grown_set w' b 1 (.slice a' (L.length + 1) c')
  have hl1 := h.log.off hg (fun e => hpne e.symm) (own_two h.log.lns h.own (by decide)) (own_two h.log.own h.own (by decide))
  have hl2 := hl1.off hset (fun e => hl1.has.ne hb' (by decide) (by injection e)) (.inr (own_ne hl1.lns hb' (by decide))) (.inr (own_ne hl1.own hb' (by decide)))
  have hsz : w'.heap.size ≤ (w'.setCell ⟨b, 1, none⟩ (.slice a' (L.length + 1) c')).heap.size := hset.size
  have hk : Kp O w (w'.setCell ⟨b, 1, none⟩ (.slice a' (L.length + 1) c')) := (Kp.grown (O := O) hg (fun j hj => .inl (h.ins j hj))).trans (Kp.set w' _ _ (O := O) h.inb) (fun _ q => .inl q)
  refine ⟨a, c, a', c', w', rfl, hr, ?_, hb'.free 1, ⟨⟨p, la, lc, tv, _, hl2, hs, ?_, h.fine.app (may_zero hm).2.2.2 hx (may_zero hm).2.2.1, .inl h.inb, .inl h.inp, fun g hg => .inl (h.int g hg), fun g hg' => ?_, fun g hg => ?_, h.un⟩, hk, (Oth15.row h.own (.inr (.inr (.inr rfl))) hg).trans (Oth15.put hb' (.inr (.inr (.inl rfl))) _ _)⟩⟩
  · have := hb'.cell 1; simpa using this
  · have := own_beside ho hb' (by decide) hset
    rw [List.length_append, List.flatMap_append]
    simpa using this
  · rcases hat with e | e
    · exact .inl (h.ins g (e ▸ hg'))
    · rw [e] at hg'
      injection hg' with hg'
      subst hg'
      exact .inr ⟨Nat.le_refl _, Nat.lt_of_lt_of_le (ho.lt _ e).2 hsz⟩
  · exact hg.elim (fun z => Nat.lt_of_lt_of_le (h.lt g z) hk.size) fun z => z.2
/-- what a change answers, and leaves -/
def ChgR (w : World) (O : Nat → Prop) (b : Nat) (d : Dt) (E : List Tl) (L : List Sp) (X : Int) (e : Ending) (w' : World) : Prop := e = .returned (.int .i64 X) ∧ TkR w O b d E L w'
set_option maxRecDepth 100000 in
set_option maxHeartbeats 4000000 in
theorem tchange_any (h : TkX w O b p d E L la lc tv sv) (x : Sp) (n : Int) (hn : Am n) (ho : x.og = 0 ∨ x.og = x.fr) (hba : 0 ≤ x.ba) (hba2 : Am x.ba) : Calls Tryz.prog 95 #[.pointer (some ⟨b, 0, none⟩), x.val, .int .i64 n] w (ChgR w O b d E (chgS L x n) (chgE L x n)) := by
  unfold ChgR
  have HSame := Lib.hid (fun (w' : World) (q : Below w.heap.size w w') => TkR.same ⟨p, la, lc, tv, sv, h⟩ q)
  have HH := Lib.hid h
  have HSi := Lib.hid (fun (W : World) (q : Below w.heap.size w W) => tsince_any (h.up q))
  have hl := h.fine.len
  obtain ⟨f, o, ba, r⟩ := x
  unfold Sp.val
  simp only at ho hba hba2 ⊢
  have HO := Lib.hid ho
  obtain ⟨s, hs⟩ : ∃ s, s = (lastS L).fr := ⟨_, rfl⟩
  have HS := Lib.hid hs
  rw [← hs] at HSi
  obtain ⟨a0, c0, hsv, _⟩ := own_form3 h.own
  have hc1 := h.has.cell 1
  simp at hc1
  rw [hsv] at hc1
  obtain ⟨k, hk⟩ : ∃ k, k = L.length := ⟨_, rfl⟩
  have HK := Lib.hid hk
  rw [← hk] at hc1 hl
  have HC1 := Lib.hid hc1
  have HSV := Lib.hid hsv
  have HL := Lib.hid (fun (W : World) => less_calls n ba W hn.1 hn.2 hba2.1 hba2.2)
  have e0 : ∀ X, chgE L ⟨f, o, ba, r⟩ n = X → X ≠ 0 → chgS L ⟨f, o, ba, r⟩ n = L := fun X h1 h2 => by unfold chgS; rw [if_neg (by rw [h1]; exact h2)]
  have HE0 := Lib.hid e0
  clear h hs hk hsv hc1 ho e0
  go_enter Tryz.func95, Tryz.ntmps95
  have HX := Lib.hid (Has.fresh w 147 #[.int .i64 f, .int .i64 o, .int .i64 ba, .int .i64 r])
  by_cases q1 : f < 0 ∨ 1000000 < f
  · have hE : chgE L ⟨f, o, ba, r⟩ n = 1 := by unfold chgE mayS; simp only; rw [if_pos q1]; simp
    have HE := Lib.hid hE
    clear hE
    rcases q1 with q1 | q1
    · go_wp2_with fail
      go_ret
      exact ⟨by rw [HE.out]; rfl, by rw [HE0.out _ HE.out (by decide)]; exact HSame.out _ (boxed _ _)⟩
    · have q2 : ¬ f < 0 := by omega
      go_wp2_with fail
      go_ret
      exact ⟨by rw [HE.out]; rfl, by rw [HE0.out _ HE.out (by decide)]; exact HSame.out _ (boxed _ _)⟩
  have q1a : ¬ f < 0 := by omega
  have q1b : ¬ 1000000 < f := by omega
  have Q1 := Lib.hid q1
  clear q1
  go_wp2_with fail
  obtain ⟨W0, hW0⟩ : ∃ W0, W0 = w.alloc (.cells #[.int .i64 f, .int .i64 o, .int .i64 ba, .int .i64 r] 147) := ⟨_, rfl⟩
  rw [← hW0] at HX
  have HB0 : Hid (Below w.heap.size w W0) := by rw [hW0]; exact Lib.hid (boxed _ _)
  rw [← hW0]
  obtain ⟨y, hy⟩ : ∃ y, y = w.heap.size := ⟨_, rfl⟩
  rw [← hy] at HX ⊢
  have HCall := Lib.hid (HSi.out W0.drew HB0.out.drew)
  have K0 : Hid (W0.drew.cell? ⟨y, 0, none⟩ = some (.int .i64 f)) := Lib.hid (HX.out.cell 0)
  have HYe := Lib.hid hy
  clear hW0 hy
  go_region_held3 (fun w' => w'.cell? ⟨y, 0, none⟩ = some (.int .i64 f))
    (first | (go_keep; done) | (with_reducible exact K0.out) | (with_reducible exact kK1.out))
    (first | (go_at_call 126; (with_reducible refine (HCall.out).mono ?_); rintro e w3 ⟨rfl, hb3⟩; have kK1 : Hid (w3.cell? ⟨y, 0, none⟩ = some (.int .i64 f)) := Lib.hid (kcell hb3 K0.out); have kB3 := Lib.hid (up2 HB0.out.drew hb3); have kX3 := Lib.hid ((HX.out.up (Below.refl _ _).drew).up hb3); clear hb3))
  all_goals
    by_cases q3 : f < s
    · have hm : mayS L f = 11 := by unfold mayS; rw [if_neg Q1.out, if_pos (show f < (lastS L).fr by rw [← HS.out]; exact q3)]
      have hE : chgE L ⟨f, o, ba, r⟩ n = 11 := by unfold chgE; simp only; rw [hm]; rfl
      have HE := Lib.hid hE
      clear hE hm
      go_wp2_with fail
      go_ret
      exact ⟨by rw [HE.out]; rfl, by rw [HE0.out _ HE.out (by decide)]; exact HSame.out _ kB3.out⟩
    have hx := kX3.out
    have x0 := hx.cell 0
    have x1 := hx.cell 1
    have x2 := hx.cell 2
    have x3 := hx.cell 3
    have xf := hx.free 3
    simp at x0 x1 x2 x3
    have c1 := kcell kB3.out HC1.out
    by_cases q4 : k = 50
    · have hm : mayS L f = 4 := by unfold mayS; rw [if_neg Q1.out, if_neg (show ¬ f < (lastS L).fr by rw [← HS.out]; exact q3), if_pos (by rw [← HK.out]; omega)]
      have hE : chgE L ⟨f, o, ba, r⟩ n = 4 := by unfold chgE; simp only; rw [hm]; rfl
      have HE := Lib.hid hE
      have q4' : ((k : Int) == 50) = true := by simp; omega
      clear hE hx hm
      go_wp2_with fail
      go_ret
      exact ⟨by rw [HE.out]; rfl, by rw [HE0.out _ HE.out (by decide)]; exact HSame.out _ kB3.out⟩
    have hm : mayS L f = 0 := by unfold mayS; rw [if_neg Q1.out, if_neg (show ¬ f < (lastS L).fr by rw [← HS.out]; exact q3), if_neg (by rw [← HK.out]; omega)]
    have HM := Lib.hid hm
    have q4' : ((k : Int) == 50) = false := by simp; omega
    clear q4 hm
    by_cases q5 : n < ba
    · have hE : chgE L ⟨f, o, ba, r⟩ n = 1 := by unfold chgE; simp only; rw [HM.out]; simp [q5]
      have HE := Lib.hid hE
      clear hE hx
      go_wp2_with fail
      go_ret
      exact ⟨by rw [HE.out]; rfl, by rw [HE0.out _ HE.out (by decide)]; exact HSame.out _ kB3.out⟩
    have hE : chgE L ⟨f, o, ba, r⟩ n = 0 := by unfold chgE; simp only; rw [HM.out]; simp [q5]
    have hA : Am (n - ba) := by unfold Am at hn hba2 ⊢; omega
    have hL2 := HL
    rw [tellV_in hA, tellE_in hA] at hL2
    have HL2 := hL2
    have HE := Lib.hid hE
    have HQ5 := Lib.hid q5
    have HHN := Lib.hid hn
    clear hE hx hL2 hn hba2 hA HL
    go_wp2_with fail
    refine (HL2.out _).mono ?_
    rintro e w4 ⟨rfl, hb4⟩
    have hx := kX3.out.up hb4
    have x0 := hx.cell 0
    have x1 := hx.cell 1
    have x2 := hx.cell 2
    have x3 := hx.cell 3
    have xf := hx.free 3
    simp at x0 x1 x2 x3
    have HB4 := Lib.hid (up2 kB3.out hb4)
    have HX4 := Lib.hid hx
    clear hb4 hx c1
    go_wp2_with fail
    obtain ⟨W5, hW5⟩ : ∃ W5, W5 = w4.setCell ⟨y, 3, none⟩ (.int .i64 (n - ba)) := ⟨_, rfl⟩
    have hx5 : Has W5 y 147 #[.int .i64 f, .int .i64 o, .int .i64 ba, .int .i64 (n - ba)] := by rw [hW5]; exact HX4.out.put 3 _
    have hb5 : Below w.heap.size w W5 := by rw [hW5]; exact HB4.out.grown (grown_set w4 y 3 _) HB4.out.size (fun j hj => by injection hj with hj; have := HYe.out; omega)
    rw [← hW5]
    obtain ⟨WA, hWA⟩ : ∃ WA, WA = (W5.alloc (.cells #[.int .i64 f, .int .i64 o, .int .i64 ba, .int .i64 (n - ba)] 147)).drew := ⟨_, rfl⟩
    have hbA : Below w.heap.size w WA := by rw [hWA]; exact (up2 hb5 (boxed _ _)).drew
    have hok : SpOk ⟨f, o, ba, n - ba⟩ := ⟨by simp only; omega, by simp only; omega, HO.out, hba, by have := HQ5.out; simp only; omega, by have := HHN.out.2; simp only; omega⟩
    obtain ⟨a, c, a', c', w6, e1, hr, g1, g2, hT⟩ := (HH.out.up hbA).push (x := ⟨f, o, ba, n - ba⟩) HM.out hok (y := W5.heap.size) (by rw [hWA]; exact Has.fresh W5 _ _)
    rw [HSV.out] at e1
    injection e1 with e1 _ e3
    subst e1; subst e3
    rw [← HK.out] at hr hT
    rw [HSV.out, ← HK.out] at g1
    have x0 := hx5.cell 0
    have x1 := hx5.cell 1
    have x2 := hx5.cell 2
    have x3 := hx5.cell 3
    simp at x0 x1 x2 x3
    have c1 := kcell hb5 HC1.out
    have d1 : WA.cell? ⟨b, 1, none⟩ = some (.slice a0 k c0) := by
      have hq : Below W5.heap.size W5 WA := by rw [hWA]; exact (boxed _ _).drew
      exact kcell hq c1
    have hlt5 := World.block_lt_of_cell? (a := ⟨b, 1, none⟩) _ c1
    rw [hWA] at d1
    have HR := Lib.hid hr
    have HT := Lib.hid (hT.from hbA HH.out.lt)
    have HSC : Hid (chgS L ⟨f, o, ba, r⟩ n = L ++ [⟨f, o, ba, n - ba⟩]) := Lib.hid (by unfold chgS; rw [if_pos HE.out])
    have HWA := Lib.hid hWA
    clear hT hr hWA hx5 hb5 hbA hok hW5
    go_region_law (first
      | (refine step_run (by rfl) (.tmp 46) (.tmp 48) 99 (by rfl) _ _ (by rfl) (by rfl) (S := fun u q => u = .slice a' (k + 1) c' ∧ q = w6) ⟨_, w6, (by first | exact HR.out | (rw [← HWA.out]; exact HR.out)), rfl, rfl⟩ ?_; rintro u q ⟨rfl, rfl⟩))
    all_goals
      go_wp2_with fail
      go_ret
      exact ⟨by rw [HE.out]; rfl, by rw [HSC.out]; exact HT.out⟩
end
end Go.Proofs.YtklaonoekmhakaaGreat
