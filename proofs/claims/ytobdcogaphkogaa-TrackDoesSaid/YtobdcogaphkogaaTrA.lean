/- A span's earned, allotted; last, counting; Allotted, Since, Whole. -/
import Derived.Test.YtobdcogaphkogaaTrMem
import Derived.Test.YtobdcogaphkogaaH
namespace Go.Proofs.Ytobdcogaphkogaa
open Go.RowKit

def Sp.val (x : Sp) : Value := .agg #[.int .i64 x.fr, .int .i64 x.og, .int .i64 x.ba, .int .i64 x.re]
/-- a span whose base and rest are an amount -/
structure SpG (x : Sp) : Prop where
  ba : 0 ≤ x.ba
  re : 0 ≤ x.re
  am : x.ba + x.re ≤ 9223372036854775807
theorem SpOk.g {x : Sp} (h : SpOk x) : SpG x := ⟨h.ba, h.re, h.am⟩
set_option maxRecDepth 100000 in
set_option maxHeartbeats 1000000 in
theorem spall_any (x : Sp) (h : SpG x) (w : World) : Calls Try.prog 39 #[x.val] w fun e w' => e = .returned (.int .i64 (x.ba + x.re)) ∧ Below w.heap.size w w' := by
  have h1 := h.ba
  have h2 := h.re
  have h3 := h.am
  obtain ⟨f, o, b, r⟩ := x
  unfold Sp.val
  simp only at h1 h2 h3 ⊢
  have HA := Lib.hid (fun (W : World) => add_any b r W (by omega) (by omega) (by omega) (by omega))
  rw [tellV_in (show Am (b + r) by unfold Am; omega), tellE_in (show Am (b + r) by unfold Am; omega)] at HA
  clear h h1 h2 h3
  go_enter Try.func39, Try.ntmps39
  go_wp2_with fail
  refine (HA.out _).mono ?_
  rintro e w1 ⟨rfl, hb⟩
  have HB := Lib.hid (up2 (boxed _ _) hb)
  clear hb
  go_wp2_with fail
  go_ret
  exact ⟨rfl, HB.out⟩
/-- what a span has earned -/
def spE (x : Sp) (n m : Int) : Int := if m = 0 then x.ba + x.re else x.ba + x.re * n / m
set_option maxRecDepth 100000 in
set_option maxHeartbeats 2000000 in
theorem spear_any (x : Sp) (h : SpG x) (n m : Int) (h0 : 0 ≤ n) (h1 : n ≤ m) (h2 : m ≤ 9223372036854775807) (w : World) : Calls Try.prog 35 #[x.val, .int .i64 n, .int .i64 m] w fun e w' => e = .returned (.int .i64 (spE x n m)) ∧ Below w.heap.size w w' := by
  have HS := Lib.hid (fun (W : World) => spall_any x h W)
  have g1 := h.ba
  have g2 := h.re
  have g3 := h.am
  obtain ⟨f, o, b, r⟩ := x
  unfold Sp.val at HS ⊢
  unfold spE
  simp only at g1 g2 g3 HS ⊢
  by_cases q : m = 0
  · rw [if_pos q]
    subst q
    clear h g1 g2 g3 h0 h1 h2
    go_enter Try.func35, Try.ntmps35
    go_wp2_with fail
    refine (HS.out _).mono ?_
    rintro e w1 ⟨rfl, hb⟩
    have HB := Lib.hid (up2 (boxed _ _) hb)
    clear hb
    go_wp2_with fail
    go_ret
    exact ⟨rfl, HB.out⟩
  · rw [if_neg q]
    have hp := pos_part (re := r) (p := n) (W := m) g2 h0 (by omega) h1
    have HP := Lib.hid (fun (W : World) => part_any r n m W (by omega) (by omega) h0 (by omega) (by omega) h2)
    rw [tellV_in (show Am (r * n / m) by unfold Am; omega), tellE_in (show Am (r * n / m) by unfold Am; omega)] at HP
    generalize r * n / m = v at hp HP ⊢
    have HA := Lib.hid (fun (W : World) => add_any b v W (by omega) (by omega) (by omega) (by omega))
    rw [tellV_in (show Am (b + v) by unfold Am; omega), tellE_in (show Am (b + v) by unfold Am; omega)] at HA
    clear h g1 g2 g3 h0 h1 h2 hp HS
    go_enter Try.func35, Try.ntmps35
    go_wp2_with fail
    have HX := Lib.hid (Has.fresh w 58 #[.int .i64 f, .int .i64 o, .int .i64 b, .int .i64 r])
    refine (HP.out _).mono ?_
    rintro e w1 ⟨rfl, hb⟩
    have hx := HX.out.up hb
    have x2 := hx.cell 2
    simp at x2
    have HB := Lib.hid (up2 (boxed _ _) hb)
    clear hb hx
    go_wp2_with fail
    refine (HA.out _).mono ?_
    rintro e w2 ⟨rfl, hb⟩
    have HB2 := Lib.hid (up2 HB.out hb)
    clear hb x2
    go_wp2_with fail
    go_ret
    exact ⟨rfl, HB2.out⟩
theorem last_at {L : List Sp} (h : L ≠ []) : L[L.length - 1]? = some (lastS L) := by
  unfold lastS
  rw [List.getLastD_eq_getLast?, List.getLast?_eq_getElem?]
  rw [List.getElem?_eq_getElem (by have := List.length_pos_iff.2 h; omega)]
  rfl
/-- all four cells of a block written -/
def put4 (w : World) (g : Nat) (b0 b1 b2 b3 : Value) : World :=
  (((w.setCell ⟨g, 0, none⟩ b0).setCell ⟨g, 1, none⟩ b1).setCell ⟨g, 2, none⟩ b2).setCell ⟨g, 3, none⟩ b3
theorem put4_has {w : World} {g T : Nat} {a0 a1 a2 a3 : Value} (h : Has w g T #[a0, a1, a2, a3]) (b0 b1 b2 b3 : Value) : Has (put4 w g b0 b1 b2 b3) g T #[b0, b1, b2, b3] :=
  (((h.put 0 b0).put 1 b1).put 2 b2).put 3 b3
theorem put4_grown (w : World) (g : Nat) (b0 b1 b2 b3 : Value) : w.grownBy (put4 w g b0 b1 b2 b3) (some g) :=
  grown_trans (grown_trans (grown_trans (grown_set _ _ _ _) (grown_set _ _ _ _)) (grown_set _ _ _ _)) (grown_set _ _ _ _)
section
variable {w : World} {O : Nat → Prop} {b p : Nat} {d : Dt} {E : List Tl} {L : List Sp} {la : Option Addr} {lc : Nat} {tv sv : Value}
set_option maxRecDepth 100000 in
set_option maxHeartbeats 4000000 in
theorem tlast_any (h : TkX w O b p d E L la lc tv sv) : Calls Try.prog 38 #[.pointer (some ⟨b, 0, none⟩)] w fun e w' => e = .returned (lastS L).val ∧ Below w.heap.size w w' := by
  obtain ⟨a, c, rfl, hrow⟩ := h.row
  have hpos := List.length_pos_iff.2 h.fine.some
  have hlen := h.fine.len
  obtain ⟨g, o, rfl, z0, z1, z2, z3⟩ := sp_at hrow (last_at h.fine.some)
  have c1 := h.has.cell 1
  simp at c1
  obtain ⟨⟨f, og, ba, re⟩, hx⟩ : ∃ x, x = lastS L := ⟨_, rfl⟩
  rw [← hx] at z0 z1 z2 z3 ⊢
  unfold Sp.val
  simp only at z0 z1 z2 z3 ⊢
  obtain ⟨n, hn⟩ : ∃ n, n = L.length := ⟨_, rfl⟩
  rw [← hn] at c1 hpos hlen z0 z1 z2 z3
  obtain ⟨t, ht⟩ : ∃ t, t = n - 1 := ⟨_, rfl⟩
  rw [← ht] at z0 z1 z2 z3
  have e1 : IntKind.i64.wrap ((n : Int) - 1) = (t : Int) := by rw [IntWalk.i64_in _ (by omega)]; omega
  have t1 : t < n := by omega
  have i0 : (0 : Int) ≤ (t : Int) := by omega
  have i1 : (t : Int) < (n : Int) := by omega
  clear h hrow hx hn ht hpos hlen
  go_enter Try.func38, Try.ntmps38
  go_wp2_with fail
  obtain ⟨W0, hW0⟩ : ∃ W0, W0 = w.alloc (.cells #[.int .i64 0, .int .i64 0, .int .i64 0, .int .i64 0] 58) := ⟨_, rfl⟩
  have hb0 : Below w.heap.size w W0 := by rw [hW0]; exact boxed _ _
  have hy : Has W0 w.heap.size 58 #[.int .i64 0, .int .i64 0, .int .i64 0, .int .i64 0] := by rw [hW0]; exact Has.fresh _ _ _
  rw [← hW0]
  have c1 := kcell hb0 c1
  have z0 := kcell hb0 z0
  have z1 := kcell hb0 z1
  have z2 := kcell hb0 z2
  have z3 := kcell hb0 z3
  have y0 := hy.cell 0
  have y1 := hy.cell 1
  have y2 := hy.cell 2
  have y3 := hy.cell 3
  have f0 := hy.free 0
  have f1 := hy.free 1
  have f2 := hy.free 2
  have f3 := hy.free 3
  simp at y0 y1 y2 y3
  have HB := Lib.hid hb0
  have HY := Lib.hid hy
  clear hW0 hb0 hy
  go_region
  obtain ⟨W1, hW1⟩ : ∃ W1, W1 = put4 W0 w.heap.size (.int .i64 f) (.int .i64 og) (.int .i64 ba) (.int .i64 re) := ⟨_, rfl⟩
  have hf := put4_has HY.out (.int .i64 f) (.int .i64 og) (.int .i64 ba) (.int .i64 re)
  have hg := put4_grown W0 w.heap.size (.int .i64 f) (.int .i64 og) (.int .i64 ba) (.int .i64 re)
  rw [← hW1] at hf hg
  have hbf := HB.out.grown hg HB.out.size (fun j hj => by injection hj with hj; omega)
  have r0 : W1.drew.cell? ⟨w.heap.size, 0, none⟩ = some (.int .i64 f) := hf.cell 0
  have r1 : W1.drew.cell? ⟨w.heap.size, 1, none⟩ = some (.int .i64 og) := hf.cell 1
  have r2 : W1.drew.cell? ⟨w.heap.size, 2, none⟩ = some (.int .i64 ba) := hf.cell 2
  have r3 : W1.drew.cell? ⟨w.heap.size, 3, none⟩ = some (.int .i64 re) := hf.cell 3
  unfold put4 at hW1
  rw [← hW1]
  clear hf hg y0 y1 y2 y3 f0 f1 f2 f3 c1 z0 z1 z2 z3 e1 t1 i0 i1 hW1
  go_wp2_with fail
  exact bodyPost_ret (v := .agg #[.int .i64 f, .int .i64 og, .int .i64 ba, .int .i64 re]) (by simp [results, Try.results38, go_sem, r0, r1, r2, r3]) rfl ⟨rfl, hbf.drew⟩
end
theorem cntS_app2 (day : Int) (x : Sp) (A B : List Sp) : cntS day x (A ++ B) = cntS day (cntS day x A) B := by
  induction A generalizing x with
  | nil => rfl
  | cons y A ih => exact ih _
theorem cntS_none (day : Int) (x : Sp) (A : List Sp) (h : ∀ y ∈ A, day < y.fr) : cntS day x A = x := by
  induction A generalizing x with
  | nil => rfl
  | cons y A ih =>
    unfold cntS
    rw [if_neg (by have := h y (by simp); omega)]
    exact ih _ fun z hz => h z (List.mem_cons_of_mem _ hz)
/-- which one counts, by places -/
theorem cnt_at {L : List Sp} {day : Int} {k : Nat} {x : Sp} (hx : L[k]? = some x) (h1 : k = 0 ∨ x.fr ≤ day) (h2 : ∀ j y, k < j → L[j]? = some y → day < y.fr) : cnt L day = x := by
  obtain ⟨hk, e⟩ := List.getElem?_eq_some_iff.1 hx
  have hs : L = L.take k ++ x :: L.drop (k + 1) := by
    rw [← e, List.getElem_cons_drop, List.take_append_drop]
  have hn : ∀ z, cntS day z (L.drop (k + 1)) = z := fun z => cntS_none day z _ fun y hy => by
    obtain ⟨j, hj⟩ := List.getElem?_of_mem hy
    rw [List.getElem?_drop] at hj
    exact h2 _ y (by omega) hj
  unfold cnt
  rcases h1 with rfl | h1
  · cases L with
    | nil => simp at hx
    | cons y l =>
      obtain rfl : y = x := by simpa using hx
      simp only [List.headD_cons, cntS]
      have := hn y
      simp only [List.drop_succ_cons, List.drop_zero] at this
      rw [ite_self, this]
  · rw [show cntS day (L.headD sp0) L = cntS day (L.headD sp0) (L.take k ++ x :: L.drop (k + 1)) by rw [← hs], cntS_app2]
    simp only [cntS]
    rw [if_pos h1, hn]
section
variable {w : World} {O : Nat → Prop} {b p : Nat} {d : Dt} {E : List Tl} {L : List Sp} {la : Option Addr} {lc : Nat} {tv sv : Value}
set_option maxRecDepth 100000 in
set_option maxHeartbeats 4000000 in
theorem tcount_any (h : TkX w O b p d E L la lc tv sv) (day : Int) : Calls Try.prog 33 #[.pointer (some ⟨b, 0, none⟩), .int .i64 day] w fun e w' => e = .returned (cnt L day).val ∧ Below w.heap.size w w' := by
  obtain ⟨a, c, rfl, hrow⟩ := h.row
  have hpos := List.length_pos_iff.2 h.fine.some
  have hlen := h.fine.len
  have HR := Lib.hid hrow
  have c1 := h.has.cell 1
  simp at c1
  obtain ⟨n, hn⟩ : ∃ n, n = L.length := ⟨_, rfl⟩
  have HN := Lib.hid hn
  rw [← hn] at c1 hpos hlen
  obtain ⟨t, ht⟩ : ∃ t, t = n - 1 := ⟨_, rfl⟩
  have e1 : IntKind.i64.wrap ((n : Int) - 1) = (t : Int) := by rw [IntWalk.i64_in _ (by omega)]; omega
  have t1 : t < n := by omega
  have HT := Lib.hid ht
  have HPo := Lib.hid hpos
  have hlt := h.has.lt
  clear h hrow hn ht hpos
  go_enter Try.func33, Try.ntmps33
  go_wp2_with fail
  obtain ⟨W0, hW0⟩ : ∃ W0, W0 = w.alloc (.cells #[.int .i64 0, .int .i64 0, .int .i64 0, .int .i64 0] 58) := ⟨_, rfl⟩
  have hb0 : Below w.heap.size w W0 := by rw [hW0]; exact boxed _ _
  have hy : Has W0 w.heap.size 58 #[.int .i64 0, .int .i64 0, .int .i64 0, .int .i64 0] := by rw [hW0]; exact Has.fresh _ _ _
  rw [← hW0]
  have c1 := kcell hb0 c1
  have HB := Lib.hid hb0
  have HY := Lib.hid hy
  clear hW0 hb0 hy e1 hlt
  go_loopw [5] (fun i wr => ∃ k : Nat, k < n ∧ i = .int .i64 (k : Int) ∧ Hid (∀ j y, k < j → L[j]? = some y → day < y.fr) ∧ wr = W0) (fun i _ => (intOf i).toNat)
  case atStart => exact ⟨t, t1, rfl, Lib.hid fun j y hj hy => by have := (List.getElem?_eq_some_iff.1 hy).1; rw [← HN.out] at this; have := HT.out; omega, rfl⟩
  case round =>
    obtain ⟨k, hk, rfl, HAll, rfl⟩ := hrel
    obtain ⟨x, hx⟩ : ∃ x, L[k]? = some x := ⟨L[k]'(by rw [← HN.out]; exact hk), List.getElem?_eq_getElem _⟩
    obtain ⟨g, o, rfl, z0, z1, z2, z3⟩ := sp_at (HR.out.up HB.out) hx
    have HX := Lib.hid hx
    have i0 : (0 : Int) ≤ (k : Int) := by omega
    have i1 : (k : Int) < (n : Int) := by omega
    by_cases q : 0 < k ∧ day < x.fr
    · obtain ⟨q1, q2⟩ := q
      have q1' : (0 : Int) < (k : Int) := by omega
      have e1 : IntKind.i64.wrap ((k : Int) - 1) = (k : Int) - 1 := IntWalk.i64_in _ (by omega)
      have HQ := Lib.hid q2
      obtain ⟨f, og, ba, re⟩ := x
      simp only at z0 z1 z2 z3 q2
      clear hx
      go_wp2_with fail
      exact ⟨⟨k - 1, by omega, by congr 1; omega, Lib.hid fun j y hj hy => (by
        by_cases e : j = k
        · subst e
          have e2 := HX.out.symm.trans hy
          injection e2 with e2
          rw [← e2]; exact HQ.out
        · exact HAll.out j y (by omega) hy), trivial⟩, by simp [intOf]; omega⟩
    · have hq : k = 0 ∨ x.fr ≤ day := by
        by_cases e : k = 0
        · exact .inl e
        · exact .inr (by have : ¬ (0 < k ∧ day < x.fr) := q; omega)
      have hc : cnt L day = x := cnt_at HX.out hq HAll.out
      have HC := Lib.hid hc
      obtain ⟨f, og, ba, re⟩ := x
      simp only at z0 z1 z2 z3 hq
      have hy := HY.out
      have y0 := hy.cell 0
      have y1 := hy.cell 1
      have y2 := hy.cell 2
      have y3 := hy.cell 3
      have f0 := hy.free 0
      have f1 := hy.free 1
      have f2 := hy.free 2
      have f3 := hy.free 3
      simp at y0 y1 y2 y3
      have hf := put4_has HY.out (.int .i64 f) (.int .i64 og) (.int .i64 ba) (.int .i64 re)
      have hg := put4_grown wr w.heap.size (.int .i64 f) (.int .i64 og) (.int .i64 ba) (.int .i64 re)
      have HF := Lib.hid hf
      have HG := Lib.hid hg
      clear hx hc hy hf hg
      by_cases e : k = 0
      · have e' : ¬ (0 : Int) < (k : Int) := by omega
        clear q hq e
        go_wp2_with fail
        obtain ⟨W1, hW1⟩ : ∃ W1, W1 = put4 wr w.heap.size (.int .i64 f) (.int .i64 og) (.int .i64 ba) (.int .i64 re) := ⟨_, rfl⟩
        have hf := HF.out
        have hg := HG.out
        rw [← hW1] at hf hg
        have hbf := HB.out.grown hg HB.out.size (fun j hj => by injection hj with hj; omega)
        have r0 := hf.cell 0
        have r1 := hf.cell 1
        have r2 := hf.cell 2
        have r3 := hf.cell 3
        simp at r0 r1 r2 r3
        unfold put4 at hW1
        rw [← hW1]
        refine bodyPost_ret (v := .agg #[.int .i64 f, .int .i64 og, .int .i64 ba, .int .i64 re]) (by simp [results, Try.results33, go_sem, r0, r1, r2, r3]) rfl ⟨?_, hbf⟩
        rw [HC.out]; rfl
      · have e' : (0 : Int) < (k : Int) := by omega
        have q' : ¬ day < f := by have := q; simp only at this; omega
        clear q hq e
        go_wp2_with fail
        obtain ⟨W1, hW1⟩ : ∃ W1, W1 = put4 wr w.heap.size (.int .i64 f) (.int .i64 og) (.int .i64 ba) (.int .i64 re) := ⟨_, rfl⟩
        have hf := HF.out
        have hg := HG.out
        rw [← hW1] at hf hg
        have hbf := HB.out.grown hg HB.out.size (fun j hj => by injection hj with hj; omega)
        have r0 := hf.cell 0
        have r1 := hf.cell 1
        have r2 := hf.cell 2
        have r3 := hf.cell 3
        simp at r0 r1 r2 r3
        unfold put4 at hW1
        rw [← hW1]
        refine bodyPost_ret (v := .agg #[.int .i64 f, .int .i64 og, .int .i64 ba, .int .i64 re]) (by simp [results, Try.results33, go_sem, r0, r1, r2, r3]) rfl ⟨?_, hbf⟩
        rw [HC.out]; rfl
set_option maxRecDepth 100000 in
set_option maxHeartbeats 1000000 in
theorem tallot_any (h : TkX w O b p d E L la lc tv sv) : Calls Try.prog 16 #[.pointer (some ⟨b, 0, none⟩)] w fun e w' => e = .returned (.int .i64 (altV L)) ∧ Below w.heap.size w w' := by
  have HL := Lib.hid (tlast_any h)
  have HS := Lib.hid (fun (W : World) => spall_any (lastS L) (h.fine.ok _ (lastS_mem h.fine.some)).g W)
  unfold altV
  generalize (lastS L).ba + (lastS L).re = v at HS ⊢
  generalize (lastS L) = x at HL HS ⊢
  obtain ⟨f, og, ba, re⟩ := x
  unfold Sp.val at HL HS
  simp only at HL HS
  clear h
  go_enter Try.func16, Try.ntmps16
  go_wp2_with fail
  refine HL.out.mono ?_
  rintro e w1 ⟨rfl, hb⟩
  have HB := Lib.hid hb
  clear hb
  go_wp2_with fail
  refine (HS.out _).mono ?_
  rintro e w2 ⟨rfl, hb⟩
  have HB2 := Lib.hid (up2 HB.out hb)
  clear hb
  go_wp2_with fail
  go_ret
  exact ⟨rfl, HB2.out⟩
set_option maxRecDepth 100000 in
set_option maxHeartbeats 1000000 in
theorem tsince_any (h : TkX w O b p d E L la lc tv sv) : Calls Try.prog 20 #[.pointer (some ⟨b, 0, none⟩)] w fun e w' => e = .returned (.int .i64 (lastS L).fr) ∧ Below w.heap.size w w' := by
  have HL := Lib.hid (tlast_any h)
  generalize (lastS L) = x at HL ⊢
  obtain ⟨f, og, ba, re⟩ := x
  unfold Sp.val at HL
  simp only at HL ⊢
  clear h
  go_enter Try.func20, Try.ntmps20
  go_wp2_with fail
  refine HL.out.mono ?_
  rintro e w1 ⟨rfl, hb⟩
  have HB := Lib.hid hb
  clear hb
  have hfld : ∀ W : World, (Instr.field 58 (.agg #[.int .i64 f, .int .i64 og, .int .i64 ba, .int .i64 re]) 0).run Try.prog W = .ok (.int .i64 f) W := fun _ => by kernel_rfl
  go_wp2_with fail
  go_ret
  exact ⟨rfl, HB.out⟩
set_option maxRecDepth 100000 in
set_option maxHeartbeats 1000000 in
theorem twhole_any (h : TkX w O b p d E L la lc tv sv) (day : Int) : Calls Try.prog 18 #[.pointer (some ⟨b, 0, none⟩), .int .i64 day] w fun e w' => e = .returned (.bool (thrV d E day == thrW d)) ∧ Below w.heap.size w w' := by
  have HT := Lib.hid (thr_any h.log day)
  unfold ThrR at HT
  have c0 := h.has.cell 0
  simp at c0
  generalize thrV d E day = v at HT ⊢
  generalize thrW d = m at HT ⊢
  clear h
  go_enter Try.func18, Try.ntmps18
  go_wp2_with fail
  refine HT.out.mono ?_
  rintro e w1 ⟨rfl, hb⟩
  have HB := Lib.hid hb
  clear hb c0
  go_wp2_with fail
  go_ret
  exact ⟨rfl, HB.out⟩
end
end Go.Proofs.Ytobdcogaphkogaa
