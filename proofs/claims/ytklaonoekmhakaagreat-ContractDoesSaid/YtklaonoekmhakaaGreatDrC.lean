/- The reference's Tell. -/
import Derived.Test.YtklaonoekmhakaaGreatDrA
import Derived.Test.YtklaonoekmhakaaGreatByMath
namespace Go.Proofs.YtklaonoekmhakaaGreat
open Go.RowKit

theorem infoREvent : (Tryz.prog.info? 145).map (fun i => (i.zero, i.size, i.bytes)) = some (some (.agg #[.int .i64 0, .int .i64 0]), 2, 16) := by kernel_rfl
/-- what the reference's Tell answers, and leaves -/
def TelQ (w : World) (r : Nat) (d : Dt) (E : List Tl) (day n : Int) (e : Ending) (w' : World) : Prop := e = .returned (.int .i64 (telE d.me E day n)) ∧ Qg w' r d (telS d.me E day n) ∧ w.grownBy w' (some r)
section
variable {w w' : World} {r : Nat} {d : Dt} {E : List Tl} {day n : Int}
theorem TelQ.no {X : Int} (h : Qg w r d E) (hX : telE d.me E day n = X) (h0 : X ≠ 0) (hb : Below w.heap.size w w') : TelQ w r d E day n (.returned (.int .i64 X)) w' := by
  refine ⟨by rw [hX], ?_, grown_of hb _⟩
  rw [tel_not (by rw [hX]; exact h0)]
  exact h.up hb
theorem TelQ.yes (hX : telE d.me E day n = 0) (h : Qg w' r d (E ++ [(day, n)])) (hg : w.grownBy w' (some r)) : TelQ w r d E day n (.returned (.int .i64 0)) w' :=
  ⟨by rw [hX], by rw [tel_app hX]; exact h, hg⟩
theorem FineT.am (h : FineT d E) : ∀ x ∈ E, Am x.2 := fun y hy => by
  obtain ⟨i, hi⟩ := List.getElem?_of_mem hy
  have hs := h.sum
  have hk := h.ok y hy
  have hle : y.2 ≤ sumT E := by
    have hsp : E = E.take i ++ y :: E.drop (i + 1) := by
      have hi := (List.getElem?_eq_some_iff.1 hi)
      rw [← hi.2, ← List.drop_eq_getElem_cons hi.1, List.take_append_drop]
    have h1 := h.ok
    rw [hsp] at h1
    rw [hsp, sumT_app]
    have h2 := sumT_nn (E := E.take i) fun z hz => h1 z (List.mem_append_left _ hz)
    have h3 := sumT_nn (E := E.drop (i + 1)) fun z hz => h1 z (List.mem_append_right _ (List.mem_cons_of_mem _ hz))
    simp only [sumT]; omega
  unfold Am; omega
theorem FineT.most (h : FineT d E) (k : Nat) : 0 ≤ sumT (E.take k) ∧ sumT (E.take k) ≤ 9223372036854775807 := by
  have h1 := h
  rw [← List.take_append_drop k E] at h1
  exact ⟨sumT_nn h1.front.ok, h1.front.sum⟩
end
section
variable {w : World} {r : Nat} {d : Dt} {E : List Tl} {la : Option Addr} {lc : Nat} {ta : Option Addr} {n tc : Nat}
/-- what was told, copied -/
theorem QgX.app1 (h : QgX w r d E la lc (.slice ta n tc)) (hn : E.length = n) {W : World} (hW : W = w.alloc (.cells #[] 145)) :
    ∃ v1 c1 w4, (Builtin.append_ #[55, 55] 55 #[.slice (some ⟨w.heap.size, 0, none⟩) 0 0, .slice ta n tc]).run Tryz.prog W = .ok (.slice v1 n c1) w4 ∧ (w4.ownsRow w.heap.size 145 2 (.slice v1 n c1) n (E.flatMap tlC) ∧ Below w.heap.size w w4) := by
  obtain ⟨i, hi, hz0, hz1, hz2⟩ := info_parts infoREvent
  have hlen := h.fine.len
  have hb : Below w.heap.size w W := by rw [hW]; exact boxed _ _
  have hg : Has W w.heap.size 145 #[] := by rw [hW]; exact Has.fresh _ _ _
  have hrow : TlA W ta E := by
    obtain ⟨a, c, e, hr⟩ := h.row
    injection e with e1
    subst e1
    exact hr.up hb
  have hown : W.ownsRow w.heap.size 145 2 (.slice (some ⟨w.heap.size, 0, none⟩) 0 0) 0 [] := ⟨rfl, .inr ⟨w.heap.size, 0, #[], rfl, Nat.le_refl _, hg, Nat.le_refl _, by unfold maxLen; omega, rfl, rfl⟩⟩
  cases ta with
  | none =>
    obtain ⟨a, c, e, h1, _⟩ := own_form3 h.own
    injection e with e1 e2 e3
    obtain ⟨h2, h3⟩ := h1 e1.symm
    rw [← e3] at h3
    have hE : E = [] := List.eq_nil_of_length_eq_zero h2
    subst hE
    subst h3
    obtain rfl : n = 0 := hn.symm
    refine ⟨some ⟨w.heap.size, 0, none⟩, 0, W, ?_, hown, hb⟩
    simp [Builtin.append_, run_underlying Tryz.underlying55, sizeOf, typeInfo, hi, Builtin.lenOf, Builtin.firstCells, loadCells, loadCellsFrom, storeCells]
  | some ad =>
    have hnews : ∀ (j : Nat) (u : Value), (E.flatMap tlC)[j]? = some u → W.cell? (ad.add j) = some u := fun j u hj => by
      have hI2 := hrow
      rcases hrow with h | ⟨b, o, e, _⟩
      · rw [h] at hj; simp at hj
      · obtain rfl : ad = ⟨b, o, none⟩ := Option.some.inj e
        rw [addr_off]; exact hI2.flat tl_len j u hj
    obtain ⟨v', w5, hr, ho, hg5, _⟩ := run_append_own (P := Tryz.prog) W w.heap.size 55 55 145 i _ 2 16 Tryz.underlying55 hi hz0 hz1 hz2 rfl (by decide) _ 0 [] hown ad n tc (E.flatMap tlC) (by rw [flat_len tl_len, hn]) hnews (tl_one E) (by unfold maxLen; omega) (by omega) hb.size
    rw [List.nil_append, Nat.zero_add] at ho
    obtain ⟨a', c', rfl⟩ := own_formb ho
    exact ⟨a', c', w5, hr, ho, hb.grown hg5 hb.size (fun j hj => by injection hj with hj; have hj : w.heap.size = j := hj; omega)⟩
/-- .. with one more -/
theorem QgX.app2 (h : QgX w r d E la lc (.slice ta n tc)) {day m : Int} (hn : E.length = n) (h0 : telE d.me E day m = 0) {v1 : Option Addr} {c1 : Nat} {w4 : World} (g4 : w4.ownsRow w.heap.size 145 2 (.slice v1 n c1) n (E.flatMap tlC) ∧ Below w.heap.size w w4) {W5 : World} (hW : W5 = w4.alloc (.cells #[.int .i64 day, .int .i64 m] 145)) :
    ∃ v2 c2 w6, (Builtin.append_ #[55, 55] 55 #[.slice v1 n c1, .slice (some ⟨w4.heap.size, 0, none⟩) 1 1]).run Tryz.prog W5 = .ok (.slice v2 (n + 1) c2) w6 ∧ Qg (w6.setCell ⟨r, 6, none⟩ (.slice v2 (n + 1) c2)) r d (E ++ [(day, m)]) ∧ (w6.cell? ⟨r, 6, none⟩ = some (.slice ta n tc) ∧ w6.frozen? ⟨r, 6, none⟩ = false ∧ Below w.heap.size w w6) := by
  obtain ⟨i, hi, hz0, hz1, hz2⟩ := info_parts infoREvent
  have hlen := h.fine.len
  have hy : Has W5 w4.heap.size 145 #[.int .i64 day, .int .i64 m] := by rw [hW]; exact Has.fresh _ _ _
  have ho5 : W5.ownsRow w.heap.size 145 2 (.slice v1 n c1) n (E.flatMap tlC) := by rw [hW]; exact own_up g4.1 (boxed _ _)
  have hb5 : Below w.heap.size w W5 := by rw [hW]; exact up2 g4.2 (boxed _ _)
  obtain ⟨v', w6, hr, ho, hg, _⟩ := run_append_own_at (P := Tryz.prog) W5 w.heap.size 55 55 145 i _ 2 16 Tryz.underlying55 hi hz0 hz1 hz2 rfl (by decide) _ n _ ho5 ⟨w4.heap.size, 0, none⟩ 1 1 (tlC (day, m)) rfl
    (fun j u hu => by
      rw [addr_off, Nat.zero_add, hy.cell]
      exact (List.getElem?_toArray (xs := tlC (day, m)) (i := j)).trans hu)
    (fun u hu => by simp [tlC] at hu; rcases hu with rfl | rfl <;> rfl) (by unfold maxLen; omega) (by omega) hb5.size
  obtain ⟨a', c', rfl⟩ := own_formb ho
  have hb6 : Below w.heap.size w w6 := hb5.grown hg hb5.size (fun j hj => (ho5.lt j hj).1)
  have h6 := h.up hb6
  refine ⟨a', c', w6, hr, ⟨la, lc, _, h6.has.put 6 _, ?_, h.fine.more h0, h6.lns.put h6.has (by decide) 6 _⟩, ?_, h6.has.free 6, hb6⟩
  · have := own_beside (own_zero ho) h6.has (by decide) (grown_set w6 r 6 (.slice a' (n + 1) c'))
    rw [List.length_append, List.flatMap_append, hn]
    simpa using this
  · have := h6.has.cell 6; simpa using this
end
section
variable {w : World} {r : Nat} {d : Dt} {E : List Tl}
set_option maxRecDepth 100000 in
set_option maxHeartbeats 4000000 in
theorem qtell_arg (day n : Int) (h : Qg w r d E) (hb : d.me < 2 ∨ day < 1 ∨ 1000000 < day ∨ n < 1 ∨ (d.me = 2 ∧ 10000 < n)) : Calls Tryz.prog 43 #[.pointer (some ⟨r, 0, none⟩), .int .i64 day, .int .i64 n] w (TelQ w r d E day n) := by
  have hX : telE d.me E day n = 1 := by
    unfold telE
    by_cases q : day < 1 ∨ 1000000 < day ∨ n < 1
    · rw [if_pos q]
    · rw [if_neg q]
      by_cases q2 : d.me = 2
      · rw [if_pos q2, if_pos (by omega)]
      · rw [if_neg q2, if_neg (by omega)]
  have HX := Lib.hid hX
  have HQ := Lib.hid h
  obtain ⟨la, lc, tv, h⟩ := h
  have c3 := h.has.cell 3
  simp at c3
  generalize hme : d.me = me at c3 hb
  clear h hX hme
  by_cases h1 : me < 2
  · clear hb
    go_enter Tryz.func43, Tryz.ntmps43
    go_wp2_with fail
    go_ret
    exact TelQ.no HQ.out HX.out (by decide) (Below.refl _ _)
  by_cases h2 : day < 1
  · clear hb
    go_enter Tryz.func43, Tryz.ntmps43
    go_wp2_with fail
    go_ret
    exact TelQ.no HQ.out HX.out (by decide) (Below.refl _ _)
  by_cases h3 : 1000000 < day
  · clear hb
    go_enter Tryz.func43, Tryz.ntmps43
    go_wp2_with fail
    go_ret
    exact TelQ.no HQ.out HX.out (by decide) (Below.refl _ _)
  by_cases h4 : n < 1
  · clear hb
    go_enter Tryz.func43, Tryz.ntmps43
    go_wp2_with fail
    go_ret
    exact TelQ.no HQ.out HX.out (by decide) (Below.refl _ _)
  have h5 : me = 2 ∧ 10000 < n := by omega
  obtain ⟨h5, h6⟩ := h5
  subst h5
  clear hb
  go_enter Tryz.func43, Tryz.ntmps43
  go_wp2_with fail
  go_ret
  exact TelQ.no HQ.out HX.out (by decide) (Below.refl _ _)
set_option maxRecDepth 100000 in
set_option maxHeartbeats 16000000 in
theorem qtell_usage (day n : Int) (h : Qg w r d E) (hn : Am n) (h1 : 1 ≤ day) (h2 : day ≤ 1000000) (h3 : 1 ≤ n) (m3 : d.me = 3) : Calls Tryz.prog 43 #[.pointer (some ⟨r, 0, none⟩), .int .i64 day, .int .i64 n] w (TelQ w r d E day n) := by
  obtain ⟨la, lc, tv, h0⟩ := h
  have hF := h0.fine
  obtain ⟨ta, tc, e, hrow⟩ := h0.row
  subst e
  have HRow := Lib.hid hrow
  have HEm := Lib.hid hF.am
  have HSmall : Hid (∀ k, -85070591730234615865843651857942052864 ≤ n + sumT (E.take k) ∧ n + sumT (E.take k) ≤ 85070591730234615865843651857942052864) := Lib.hid fun k => by have := hF.most k; have := hn; unfold Am at this; omega
  have hlen := hF.len
  have HFin : Hid (finT E n = if E.length = 200 then 4 else if 9223372036854775807 < sumT E + n then 3 else 0) := Lib.hid (by
    unfold finT
    by_cases q : E.length = 200
    · rw [if_pos q, if_pos (by omega)]
    · rw [if_neg q, if_neg (by omega)])
  have HOv : Hid (tellE (n + sumT E) = if 9223372036854775807 < sumT E + n then 3 else 0) := Lib.hid (by
    have h1 := sumT_nn hF.ok
    have h2 := hF.sum
    unfold Am at hn
    unfold tellE
    split <;> split <;> omega)
  have HNm : Hid (-9223372036854775808 ≤ n ∧ n ≤ 9223372036854775807) := hn
  have HQ0 := Lib.hid h0
  have c3 := h0.has.cell 3
  have c6 := h0.has.cell 6
  simp at c3 c6
  obtain ⟨L, hL⟩ : ∃ L, L = E.length := ⟨_, rfl⟩
  rw [← hL] at c6 hlen HFin HQ0
  have HL := Lib.hid hL
  obtain ⟨X, hX⟩ : ∃ X, X = telE d.me E day n := ⟨_, rfl⟩
  have HX := Lib.hid hX
  have HC6 := Lib.hid c6
  have HTel : Hid (telE d.me E day n = finT E n) := Lib.hid (by unfold telE; rw [if_neg (by omega), if_neg (by omega), if_pos m3])
  rw [m3] at c3
  have g1 : ¬ day < 1 := by omega
  have g2 : ¬ 1000000 < day := by omega
  have g3 : ¬ n < 1 := by omega
  clear hF hrow h0 hL hX hn m3 h1 h2 h3
  go_enter Tryz.func43, Tryz.ntmps43
  by_cases qL : L = 200
  · have q200 : (200 : Int) ≤ (L : Int) := by omega
    have hX : X = 4 := by rw [HX.out, HTel.out, HFin.out, if_pos qL]
    have HX4 := Lib.hid hX
    clear qL hX
    go_wp2_with fail
    go_ret
    exact TelQ.no ⟨_, _, _, HQ0.out⟩ (HX.out.symm.trans HX4.out) (by decide) (Below.refl _ _)
  · have q200 : ¬ (200 : Int) ≤ (L : Int) := by omega
    have hX0 : X = if 9223372036854775807 < sumT E + n then 3 else 0 := by rw [HX.out, HTel.out, HFin.out, if_neg qL]
    have HX0 := Lib.hid hX0
    clear hX0 qL
    go_wp2_with fail
    refine (of_any n _ HNm.out.1 HNm.out.2).mono ?_
    rintro e w1 ⟨s1, a1, n1, p1, rfl, hE1, hb1⟩
    have HSt := Lib.hid (SmX.of hE1)
    have HB1 := Lib.hid (up2 hb1 (boxed w1 (.cells #[.int .i64 s1, .slice a1 n1 p1] 135)))
    obtain ⟨W1, hW1⟩ : ∃ W1, W1 = w1.alloc (.cells #[.int .i64 s1, .slice a1 n1 p1] 135) := ⟨_, rfl⟩
    obtain ⟨bx, hbx⟩ : ∃ bx, bx = w1.heap.size := ⟨_, rfl⟩
    have HBx : Hid (w.heap.size ≤ bx) := by rw [hbx]; exact Lib.hid hb1.size
    rw [← hW1] at HSt HB1
    rw [← hbx] at HSt
    have HW1 := Lib.hid hW1
    have HBxe := Lib.hid hbx
    clear hE1 hb1 c3 c6 hW1 hbx
    go_wp2_with fail
    rw [← HW1.out, ← HBxe.out]
    go_loopw [10] (fun i wr => ∃ k : Nat, k ≤ L ∧ i = .int .i64 (k : Int) ∧ (∃ s a2 l2 c2, SmX wr bx (n + sumT (E.take k)) s a2 l2 c2) ∧ Below w.heap.size w wr) (fun i _ => L - (intOf i).toNat)
    case atStart => exact ⟨0, Nat.zero_le _, rfl, ⟨_, _, _, _, by simpa [sumT] using HSt.out⟩, HB1.out⟩
    case round =>
      obtain ⟨k, hk, rfl, ⟨s, a2, l2, c2, hT⟩, hb⟩ := hrel
      have HS := Lib.hid hT
      have HB := Lib.hid hb
      clear hT hb
      obtain ⟨c0, c1, e0, e1⟩ := HS.out.row
      have c6 := kcell HB.out HC6.out
      by_cases hlt : k < L
      · obtain ⟨x, hx⟩ : ∃ x, E[k]? = some x := ⟨E[k]'(by rw [← HL.out]; exact hlt), List.getElem?_eq_getElem _⟩
        obtain ⟨b, o, ha, z0, z1⟩ := tl_at (HRow.out.up HB.out) hx
        subst ha
        have hst : n + sumT (E.take (k + 1)) = (n + sumT (E.take k)) + x.2 := by
          rw [List.take_add_one, hx, sumT_app]
          simp only [Option.toList, sumT]; omega
        have hsm := HSmall.out k
        have hx2 := HEm.out x (List.mem_of_getElem? hx)
        have HC := Lib.hid hst
        have hk0 : (0 : Int) ≤ (k : Int) := by omega
        have hk1 : (k : Int) < (L : Int) := by omega
        have hw1 : IntKind.i64.wrap ((k : Int) + 1) = (k : Int) + 1 := IntWalk.i64_in _ (by omega)
        obtain ⟨X1, Y⟩ := x
        simp only at z0 z1 hx2 HC
        obtain ⟨f1, f2⟩ := hx2
        obtain ⟨v, hv⟩ : ∃ v, v = n + sumT (E.take k) := ⟨_, rfl⟩
        rw [← hv] at HS HC hsm
        have HSm := Lib.hid (small126 ⟨hsm.1, hsm.2⟩)
        have HV := Lib.hid hv
        clear hx hst hsm hv
        go_wp2_with fail
        go_region_with (first | (go_at_call 77; ((with_reducible refine (of_any Y _ f1 f2).mono ?_); rintro e' w1 ⟨s1, a1, n1, p1, rfl, hE1, hb1⟩; have kT1 := Lib.hid (HS.out.drew.up hb1); have kE1 := Lib.hid hE1; have kB1 := Lib.hid (up2 HB.out.drew hb1); have d6 := kcell kB1.out HC6.out; clear hE1 hb1; obtain ⟨x0, x1, y0, y1⟩ := kT1.out.row)) | (go_at_call 76; ((with_reducible refine (plus_ex s s1 v Y a2 a1 l2 n1 c2 p1 _ kT1.out.ex kE1.out HSm.out (small64 f1 f2)).mono ?_); rintro e' w2 ⟨s2, a3, n2, p2, rfl, hE2, hb2⟩; have kT2 := Lib.hid (kT1.out.up hb2); have kE2 := Lib.hid hE2; have kB2 := Lib.hid (up2 kB1.out hb2); clear hE2 hb2; obtain ⟨u2, u3, v2, v3⟩ := kT2.out.row)))
        all_goals
          go_wp2_with fail
          go_roundw
          case rel =>
            refine ⟨k + 1, by omega, by go_num, ⟨s2, a3, n2, p2, ?_⟩, (kB2.out.setCell HBx.out _).setCell HBx.out _⟩
            rw [HC.out]; exact kT2.out.put kE2.out
          case measure => simp [intOf]; omega
      · obtain rfl : k = L := by omega
        have ht : E.take k = E := by rw [HL.out, List.take_length]
        have hsm := HSmall.out k
        rw [ht] at HS hsm
        have HFt := Lib.hid (fit_any s (n + sumT E) a2 l2 c2 wr HS.out.ex (small126 ⟨hsm.1, hsm.2⟩))
        rw [HOv.out, ← HX0.out] at HFt
        clear ht hsm
        go_wp2_with fail
        refine HFt.out.mono ?_
        rintro e w2 ⟨rfl, hb2⟩
        have HB2 := Lib.hid (up2 HB.out hb2)
        have d6 := kcell HB2.out HC6.out
        clear hb2 c0 c1 e0 e1 c6
        by_cases qX : X = 0
        · have HQ2 := Lib.hid (HQ0.out.up HB2.out)
          obtain ⟨W3, hW3⟩ : ∃ W3, W3 = w2.alloc (.cells #[] 145) := ⟨_, rfl⟩
          obtain ⟨v1, cc1, w4, hr1, g4⟩ := HQ2.out.app1 HL.out.symm hW3
          obtain ⟨W5, hW5⟩ : ∃ W5, W5 = w4.alloc (.cells #[.int .i64 day, .int .i64 n] 145) := ⟨_, rfl⟩
          obtain ⟨v2, cc2, w6, hr2, hQ6, hb6⟩ := HQ2.out.app2 (day := day) (m := n) HL.out.symm (HX.out.symm.trans qX) g4 hW5
          have k6 := kcell (g4.2) d6
          have a6 := kcell (boxed w2 (.cells #[] 145)) d6
          have rlt := HQ2.out.has.lt
          have r6 := hb6.1
          have f6 := hb6.2.1
          have HR1 := Lib.hid hr1
          have HR2 := Lib.hid hr2
          have HQ6 := Lib.hid hQ6
          have HG6 := Lib.hid hb6.2.2
          have HW3 := Lib.hid hW3
          have HW5 := Lib.hid hW5
          have HQX := Lib.hid qX
          rw [qX]
          clear hr1 hr2 hQ6 hb6 g4 hW3 hW5 qX
          go_wp2_with (first | (rw [← HW3.out]; refine wpList_run (o := ⟨some 165, _, _, _, _, _⟩) rfl (.tmp 160) (.tmp 164) 55 rfl _ _ rfl rfl (S := fun u q => u = .slice v1 k cc1 ∧ q = w4) ⟨_, w4, HR1.out, rfl, rfl⟩ ?_; rintro u q ⟨rfl, rfl⟩) | (rw [← HW5.out]; refine wpList_run (o := ⟨some 170, _, _, _, _, _⟩) rfl (.tmp 165) (.tmp 169) 55 rfl _ _ rfl rfl (S := fun u q => u = .slice v2 (k + 1) cc2 ∧ q = w6) ⟨_, w6, HR2.out, rfl, rfl⟩ ?_; rintro u q ⟨rfl, rfl⟩) | fail)
          go_ret
          exact TelQ.yes (HX.out.symm.trans HQX.out) HQ6.out (grown_trans (grown_of (up2 HB2.out HG6.out) _) (grown_set _ _ _ _))
        · have q' : (X != 0) = true := by simpa using qX
          have HQX := Lib.hid qX
          clear qX
          go_wp2_with fail
          go_ret
          exact TelQ.no ⟨_, _, _, HQ0.out⟩ HX.out.symm HQX.out HB2.out
end
end Go.Proofs.YtklaonoekmhakaaGreat

namespace Go.Proofs.YtklaonoekmhakaaGreat
open Go.RowKit

section
variable {w : World} {r : Nat} {d : Dt} {E : List Tl}
set_option maxRecDepth 100000 in
set_option maxHeartbeats 32000000 in
theorem qtell_mile (day n : Int) (h : Qg w r d E) (hn : Am n) (h1 : 1 ≤ day) (h2 : day ≤ 1000000) (h3 : 1 ≤ n) (h4 : n ≤ 10000) (m2 : d.me = 2) : Calls Tryz.prog 43 #[.pointer (some ⟨r, 0, none⟩), .int .i64 day, .int .i64 n] w (TelQ w r d E day n) := by
  obtain ⟨la, lc, tv, h0⟩ := h
  have hF := h0.fine
  obtain ⟨ta, tc, e, hrow⟩ := h0.row
  subst e
  have HRow := Lib.hid hrow
  have HEm := Lib.hid hF.am
  have HSmall : Hid (∀ k, -85070591730234615865843651857942052864 ≤ n + sumT (E.take k) ∧ n + sumT (E.take k) ≤ 85070591730234615865843651857942052864) := Lib.hid fun k => by have := hF.most k; have := hn; unfold Am at this; omega
  have hlen := hF.len
  have HFin : Hid (finT E n = if E.length = 200 then 4 else if 9223372036854775807 < sumT E + n then 3 else 0) := Lib.hid (by
    unfold finT
    by_cases q : E.length = 200
    · rw [if_pos q, if_pos (by omega)]
    · rw [if_neg q, if_neg (by omega)])
  have HOv : Hid (tellE (n + sumT E) = if 9223372036854775807 < sumT E + n then 3 else 0) := Lib.hid (by
    have h1 := sumT_nn hF.ok
    have h2 := hF.sum
    unfold Am at hn
    unfold tellE
    split <;> split <;> omega)
  have HNm : Hid (-9223372036854775808 ≤ n ∧ n ≤ 9223372036854775807) := hn
  have HQ0 := Lib.hid h0
  have c3 := h0.has.cell 3
  have c6 := h0.has.cell 6
  simp at c3 c6
  obtain ⟨L, hL⟩ : ∃ L, L = E.length := ⟨_, rfl⟩
  rw [← hL] at c6 hlen HFin HQ0
  have HL := Lib.hid hL
  obtain ⟨X, hX⟩ : ∃ X, X = telE d.me E day n := ⟨_, rfl⟩
  have HX := Lib.hid hX
  have HC6 := Lib.hid c6
  have HTm : Hid (telE d.me E day n = if risT day n E = 0 then finT E n else risT day n E) := Lib.hid (by unfold telE; rw [if_neg (by omega), if_pos m2, if_neg (by omega)])
  rw [m2] at c3
  have g1 : ¬ day < 1 := by omega
  have g2 : ¬ 1000000 < day := by omega
  have g3 : ¬ n < 1 := by omega
  have g4 : ¬ 10000 < n := by omega
  clear hF hrow h0 hL hX hn m2 h1 h2 h3 h4
  go_enter Tryz.func43, Tryz.ntmps43
  go_wp2_with fail
  go_loopw [7] (fun i wr => ∃ k : Nat, k ≤ L ∧ i = .int .i64 (k : Int) ∧ twiT day (E.take k) = false ∧ w = wr) (fun i _ => L - (intOf i).toNat)
  case atStart => exact ⟨0, Nat.zero_le _, rfl, rfl, rfl⟩
  case round =>
    obtain ⟨k, hk, rfl, ht, rfl⟩ := hrel
    have HT := Lib.hid ht
    clear ht
    by_cases hlt : k < L
    · obtain ⟨x, hx⟩ : ∃ x, E[k]? = some x := ⟨E[k]'(by rw [← HL.out]; exact hlt), List.getElem?_eq_getElem _⟩
      obtain ⟨b, o, ha, z0, z1⟩ := tl_at HRow.out hx
      subst ha
      have ht1 : twiT day (E.take (k + 1)) = (twiT day (E.take k) || decide (x.1 = day)) := by
        rw [List.take_add_one, hx]; unfold twiT; simp
      have hall : x.1 = day → risT day n E = 6 := fun q => by
        have : twiT day E = true := List.any_eq_true.2 ⟨x, List.mem_of_getElem? hx, by simpa using q⟩
        unfold risT; rw [if_pos this]
      rw [HT.out, Bool.false_or] at ht1
      have e1 : IntKind.i64.wrap ((k : Int) + 1) = (k : Int) + 1 := IntWalk.i64_in _ (by omega)
      have i0 : (0 : Int) ≤ (k : Int) := by omega
      have i1 : (k : Int) < (L : Int) := by omega
      have HT1 := Lib.hid ht1
      have HAll := Lib.hid hall
      obtain ⟨X1, Y⟩ := x
      simp only at z0 z1 HT1 HAll
      clear hx ht1 hall
      by_cases q : X1 = day
      · have q' : (X1 == day) = true := by simpa using q
        have hX6 : telE d.me E day n = 6 := by rw [HTm.out, HAll.out q]; rfl
        have HX6 := Lib.hid hX6
        clear hX6
        go_wp2_with fail
        go_ret
        exact TelQ.no ⟨_, _, _, HQ0.out⟩ HX6.out (by decide) (Below.refl _ _)
      · have q' : (X1 == day) = false := by simpa using q
        have HNo : Hid (twiT day (E.take (k + 1)) = false) := by rw [HT1.out]; exact Lib.hid (by simpa using q)
        clear q
        go_wp2_with fail
        exact ⟨⟨k + 1, by omega, by go_num, HNo.out, trivial⟩, by simp [intOf]; omega⟩
    · obtain rfl : k = L := by omega
      have HTE : Hid (twiT day E = false) := by have z := HT.out; rw [HL.out, List.take_length] at z; exact Lib.hid z
      go_wp2_with fail
      go_loopw [8] (fun i wr => ∃ j : Nat, j ≤ k ∧ i = .int .i64 (j : Int) ∧ badT day n (E.take j) = false ∧ w = wr) (fun i _ => k - (intOf i).toNat)
      case atStart => exact ⟨0, Nat.zero_le _, rfl, rfl, rfl⟩
      case round =>
        obtain ⟨j, hj, rfl, hb, rfl⟩ := hrel
        have HBd := Lib.hid hb
        clear hb
        by_cases hlj : j < k
        · obtain ⟨x, hx⟩ : ∃ x, E[j]? = some x := ⟨E[j]'(by rw [← HL.out]; exact hlj), List.getElem?_eq_getElem _⟩
          obtain ⟨b, o, ha, z0, z1⟩ := tl_at HRow.out hx
          subst ha
          have hb1 : badT day n (E.take (j + 1)) = (badT day n (E.take j) || badB day n x) := by
            rw [List.take_add_one, hx]; unfold badT; simp
          rw [HBd.out, Bool.false_or] at hb1
          have hall : badB day n x = true → risT day n E = 11 := fun q => by
            have : badT day n E = true := List.any_eq_true.2 ⟨x, List.mem_of_getElem? hx, q⟩
            unfold risT; rw [HTE.out, if_neg (by simp), if_pos this]
          have e1 : IntKind.i64.wrap ((j : Int) + 1) = (j : Int) + 1 := IntWalk.i64_in _ (by omega)
          have i0 : (0 : Int) ≤ (j : Int) := by omega
          have i1 : (j : Int) < (k : Int) := by omega
          have HB1 := Lib.hid hb1
          have HAll := Lib.hid hall
          obtain ⟨X1, Y⟩ := x
          simp only [badB] at z0 z1 HB1 HAll
          clear hx hb1 hall hlt
          by_cases q1 : X1 < day
          · have q2 : ¬ day < X1 := by omega
            by_cases q3 : n < Y
            · have HX11 : Hid (telE d.me E day n = 11) := Lib.hid (by rw [HTm.out, HAll.out (by simp [q1, q3])]; rfl)
              go_wp2_with fail
              go_ret
              exact TelQ.no ⟨_, _, _, HQ0.out⟩ HX11.out (by decide) (Below.refl _ _)
            · have HNo : Hid (badT day n (E.take (j + 1)) = false) := Lib.hid (by rw [HB1.out]; simp [q1, q2, q3])
              go_wp2_with fail
              exact ⟨⟨j + 1, by omega, by go_num, HNo.out, trivial⟩, by simp [intOf]; omega⟩
          · by_cases q2 : day < X1
            · by_cases q3 : Y < n
              · have HX11 : Hid (telE d.me E day n = 11) := Lib.hid (by rw [HTm.out, HAll.out (by simp [q2, q3])]; rfl)
                go_wp2_with fail
                go_ret
                exact TelQ.no ⟨_, _, _, HQ0.out⟩ HX11.out (by decide) (Below.refl _ _)
              · have HNo : Hid (badT day n (E.take (j + 1)) = false) := Lib.hid (by rw [HB1.out]; simp [q1, q2, q3])
                go_wp2_with fail
                exact ⟨⟨j + 1, by omega, by go_num, HNo.out, trivial⟩, by simp [intOf]; omega⟩
            · have HNo : Hid (badT day n (E.take (j + 1)) = false) := Lib.hid (by rw [HB1.out]; simp [q1, q2])
              go_wp2_with fail
              exact ⟨⟨j + 1, by omega, by go_num, HNo.out, trivial⟩, by simp [intOf]; omega⟩
        · obtain rfl : j = k := by omega
          have HTel : Hid (telE d.me E day n = finT E n) := Lib.hid (by
            have z := HBd.out
            rw [HL.out, List.take_length] at z
            have hr : risT day n E = 0 := by unfold risT; rw [HTE.out, z]; rfl
            rw [HTm.out, if_pos hr])
          obtain ⟨L, rfl⟩ : ∃ L, L = j := ⟨_, rfl⟩
          clear hj hk hlt hlj
          by_cases qL : L = 200
          · have q200 : (200 : Int) ≤ (L : Int) := by omega
            have hX : X = 4 := by rw [HX.out, HTel.out, HFin.out, if_pos qL]
            have HX4 := Lib.hid hX
            clear qL hX
            go_wp2_with fail
            go_ret
            exact TelQ.no ⟨_, _, _, HQ0.out⟩ (HX.out.symm.trans HX4.out) (by decide) (Below.refl _ _)
          · have q200 : ¬ (200 : Int) ≤ (L : Int) := by omega
            have hX0 : X = if 9223372036854775807 < sumT E + n then 3 else 0 := by rw [HX.out, HTel.out, HFin.out, if_neg qL]
            have HX0 := Lib.hid hX0
            clear hX0 qL
            go_wp2_with fail
            refine (of_any n _ HNm.out.1 HNm.out.2).mono ?_
            rintro e w1 ⟨s1, a1, n1, p1, rfl, hE1, hb1⟩
            have HSt := Lib.hid (SmX.of hE1)
            have HB1 := Lib.hid (up2 hb1 (boxed w1 (.cells #[.int .i64 s1, .slice a1 n1 p1] 135)))
            obtain ⟨W1, hW1⟩ : ∃ W1, W1 = w1.alloc (.cells #[.int .i64 s1, .slice a1 n1 p1] 135) := ⟨_, rfl⟩
            obtain ⟨bx, hbx⟩ : ∃ bx, bx = w1.heap.size := ⟨_, rfl⟩
            have HBx : Hid (w.heap.size ≤ bx) := by rw [hbx]; exact Lib.hid hb1.size
            rw [← hW1] at HSt HB1
            rw [← hbx] at HSt
            have HW1 := Lib.hid hW1
            have HBxe := Lib.hid hbx
            clear hE1 hb1 c3 c6 hW1 hbx
            go_wp2_with fail
            rw [← HW1.out, ← HBxe.out]
            go_loopw [10] (fun i wr => ∃ k : Nat, k ≤ L ∧ i = .int .i64 (k : Int) ∧ (∃ s a2 l2 c2, SmX wr bx (n + sumT (E.take k)) s a2 l2 c2) ∧ Below w.heap.size w wr) (fun i _ => L - (intOf i).toNat)
            case atStart => exact ⟨0, Nat.zero_le _, rfl, ⟨_, _, _, _, by simpa [sumT] using HSt.out⟩, HB1.out⟩
            case round =>
              obtain ⟨k, hk, rfl, ⟨s, a2, l2, c2, hT⟩, hb⟩ := hrel
              have HS := Lib.hid hT
              have HB := Lib.hid hb
              clear hT hb
              obtain ⟨c0, c1, e0, e1⟩ := HS.out.row
              have c6 := kcell HB.out HC6.out
              by_cases hlt : k < L
              · obtain ⟨x, hx⟩ : ∃ x, E[k]? = some x := ⟨E[k]'(by rw [← HL.out]; exact hlt), List.getElem?_eq_getElem _⟩
                obtain ⟨b, o, ha, z0, z1⟩ := tl_at (HRow.out.up HB.out) hx
                subst ha
                have hst : n + sumT (E.take (k + 1)) = (n + sumT (E.take k)) + x.2 := by
                  rw [List.take_add_one, hx, sumT_app]
                  simp only [Option.toList, sumT]; omega
                have hsm := HSmall.out k
                have hx2 := HEm.out x (List.mem_of_getElem? hx)
                have HC := Lib.hid hst
                have hk0 : (0 : Int) ≤ (k : Int) := by omega
                have hk1 : (k : Int) < (L : Int) := by omega
                have hw1 : IntKind.i64.wrap ((k : Int) + 1) = (k : Int) + 1 := IntWalk.i64_in _ (by omega)
                obtain ⟨X1, Y⟩ := x
                simp only at z0 z1 hx2 HC
                obtain ⟨f1, f2⟩ := hx2
                obtain ⟨v, hv⟩ : ∃ v, v = n + sumT (E.take k) := ⟨_, rfl⟩
                rw [← hv] at HS HC hsm
                have HSm := Lib.hid (small126 ⟨hsm.1, hsm.2⟩)
                have HV := Lib.hid hv
                clear hx hst hsm hv
                go_wp2_with fail
                go_region_with (first | (go_at_call 77; ((with_reducible refine (of_any Y _ f1 f2).mono ?_); rintro e' w1 ⟨s1, a1, n1, p1, rfl, hE1, hb1⟩; have kT1 := Lib.hid (HS.out.drew.up hb1); have kE1 := Lib.hid hE1; have kB1 := Lib.hid (up2 HB.out.drew hb1); have d6 := kcell kB1.out HC6.out; clear hE1 hb1; obtain ⟨x0, x1, y0, y1⟩ := kT1.out.row)) | (go_at_call 76; ((with_reducible refine (plus_ex s s1 v Y a2 a1 l2 n1 c2 p1 _ kT1.out.ex kE1.out HSm.out (small64 f1 f2)).mono ?_); rintro e' w2 ⟨s2, a3, n2, p2, rfl, hE2, hb2⟩; have kT2 := Lib.hid (kT1.out.up hb2); have kE2 := Lib.hid hE2; have kB2 := Lib.hid (up2 kB1.out hb2); clear hE2 hb2; obtain ⟨u2, u3, v2, v3⟩ := kT2.out.row)))
                all_goals
                  go_wp2_with fail
                  go_roundw
                  case rel =>
                    refine ⟨k + 1, by omega, by go_num, ⟨s2, a3, n2, p2, ?_⟩, (kB2.out.setCell HBx.out _).setCell HBx.out _⟩
                    rw [HC.out]; exact kT2.out.put kE2.out
                  case measure => simp [intOf]; omega
              · obtain rfl : k = L := by omega
                have ht : E.take k = E := by rw [HL.out, List.take_length]
                have hsm := HSmall.out k
                rw [ht] at HS hsm
                have HFt := Lib.hid (fit_any s (n + sumT E) a2 l2 c2 wr HS.out.ex (small126 ⟨hsm.1, hsm.2⟩))
                rw [HOv.out, ← HX0.out] at HFt
                clear ht hsm
                go_wp2_with fail
                refine HFt.out.mono ?_
                rintro e w2 ⟨rfl, hb2⟩
                have HB2 := Lib.hid (up2 HB.out hb2)
                have d6 := kcell HB2.out HC6.out
                clear hb2 c0 c1 e0 e1 c6
                by_cases qX : X = 0
                · have HQ2 := Lib.hid (HQ0.out.up HB2.out)
                  obtain ⟨W3, hW3⟩ : ∃ W3, W3 = w2.alloc (.cells #[] 145) := ⟨_, rfl⟩
                  obtain ⟨v1, cc1, w4, hr1, g4⟩ := HQ2.out.app1 HL.out.symm hW3
                  obtain ⟨W5, hW5⟩ : ∃ W5, W5 = w4.alloc (.cells #[.int .i64 day, .int .i64 n] 145) := ⟨_, rfl⟩
                  obtain ⟨v2, cc2, w6, hr2, hQ6, hb6⟩ := HQ2.out.app2 (day := day) (m := n) HL.out.symm (HX.out.symm.trans qX) g4 hW5
                  have k6 := kcell (g4.2) d6
                  have a6 := kcell (boxed w2 (.cells #[] 145)) d6
                  have rlt := HQ2.out.has.lt
                  have r6 := hb6.1
                  have f6 := hb6.2.1
                  have HR1 := Lib.hid hr1
                  have HR2 := Lib.hid hr2
                  have HQ6 := Lib.hid hQ6
                  have HG6 := Lib.hid hb6.2.2
                  have HW3 := Lib.hid hW3
                  have HW5 := Lib.hid hW5
                  have HQX := Lib.hid qX
                  rw [qX]
                  clear hr1 hr2 hQ6 hb6 g4 hW3 hW5 qX
                  go_wp2_with (first | (rw [← HW3.out]; refine wpList_run (o := ⟨some 165, _, _, _, _, _⟩) rfl (.tmp 160) (.tmp 164) 55 rfl _ _ rfl rfl (S := fun u q => u = .slice v1 k cc1 ∧ q = w4) ⟨_, w4, HR1.out, rfl, rfl⟩ ?_; rintro u q ⟨rfl, rfl⟩) | (rw [← HW5.out]; refine wpList_run (o := ⟨some 170, _, _, _, _, _⟩) rfl (.tmp 165) (.tmp 169) 55 rfl _ _ rfl rfl (S := fun u q => u = .slice v2 (k + 1) cc2 ∧ q = w6) ⟨_, w6, HR2.out, rfl, rfl⟩ ?_; rintro u q ⟨rfl, rfl⟩) | fail)
                  go_ret
                  exact TelQ.yes (HX.out.symm.trans HQX.out) HQ6.out (grown_trans (grown_of (up2 HB2.out HG6.out) _) (grown_set _ _ _ _))
                · have q' : (X != 0) = true := by simpa using qX
                  have HQX := Lib.hid qX
                  clear qX
                  go_wp2_with fail
                  go_ret
                  exact TelQ.no ⟨_, _, _, HQ0.out⟩ HX.out.symm HQX.out HB2.out
theorem qtell_any14 (h : Qg w r d E) (day n : Int) (hn : Am n) : Calls Tryz.prog 43 #[.pointer (some ⟨r, 0, none⟩), .int .i64 day, .int .i64 n] w (TelQ w r d E day n) := by
  have hd := dtB_iff.1 h.fine.may
  by_cases q : d.me < 2 ∨ day < 1 ∨ 1000000 < day ∨ n < 1 ∨ (d.me = 2 ∧ 10000 < n)
  · exact qtell_arg day n h q
  · by_cases m2 : d.me = 2
    · exact qtell_mile day n h hn (by omega) (by omega) (by omega) (by omega) m2
    · exact qtell_usage day n h hn (by omega) (by omega) (by omega) (by omega)
end
end Go.Proofs.YtklaonoekmhakaaGreat
