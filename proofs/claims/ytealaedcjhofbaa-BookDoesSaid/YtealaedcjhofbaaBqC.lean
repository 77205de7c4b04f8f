/- The reference's Set. -/
import Derived.Test.YtealaedcjhofbaaBqB
namespace Go.Proofs.Ytealaedcjhofbaa
open Go.RowKit

theorem infoRPrice : (Try.prog.info? 66).map (fun i => (i.zero, i.size, i.bytes)) = some (some (.agg #[.int .i64 0, .int .i64 0, .int .i64 0]), 3, 24) := by kernel_rfl
/-- what the reference's Set answers, and leaves -/
def QSetR (w : World) (p : Nat) (S : Bs) (i d n : Int) (e : Ending) (w' : World) : Prop := e = .returned (.int .i64 (setE S i d n)) ∧ Rb w' p (setS S i d n) ∧ w.grownBy w' (some p)
section
variable {w : World} {p : Nat} {S : Bs}
theorem qsetR_same {i d n E : Int} {w' : World} (h : Rb w p S) (hE : setE S i d n = E) (h0 : E ≠ 0) (hb : Below w.heap.size w w') : QSetR w p S i d n (.returned (.int .i64 E)) w' := by
  refine ⟨by rw [hE], ?_, grown_of hb _⟩
  unfold setS
  rw [if_neg (by rw [hE]; exact h0)]
  exact h.up hb
theorem Rbx.set {w1 : World} {qa la A : Option Addr} {qc lc C m : Nat} {i d n : Int} (h : Rbx w p S qa qc la lc) (hb : Below w.heap.size w w1) (hm : m = S.L.length) (hE : setE S i d n = 0) (hp : PcA w1 A (S.L ++ [⟨i, d, n⟩])) (hn : A = none → C = 0) :
    Rb (w1.setCell ⟨p, 1, none⟩ (.slice A (m + 1) C)) p (setS S i d n) := by
  have h1 := h.up hb
  have hg := grown_set w1 p 1 (.slice A (m + 1) C)
  have hS : setS S i d n = setted S i d n := by unfold setS; rw [if_pos hE]
  rw [hS]
  refine ⟨qa, qc, A, C, ?_, h1.items.off im_int h1.noInt hg, hp.off pc_int h1.noInt hg, hn⟩
  have h2 := h1.book.put 1 (.slice A (m + 1) C)
  have e : (S.L ++ [(⟨i, d, n⟩ : Pc)]).length = m + 1 := by rw [hm]; simp
  show Has _ p _ #[.slice qa S.I.length qc, .slice A (S.L ++ [(⟨i, d, n⟩ : Pc)]).length C]
  rw [e]; exact h2
/-- both appends -/
theorem qset_apps {la : Option Addr} {lc m : Nat} {L : List Pc} (i d n : Int) (hm : L.length = m) (hmx : m ≤ 1000) (hL : PcA w la L) (hn : la = none → lc = 0) :
    ∃ A1 C1 W2 A2 C2 W3, (Builtin.append_ #[60, 60] 60 #[.slice (some ⟨w.heap.size, 0, none⟩) 0 0, .slice la m lc]).run Try.prog (w.alloc (.cells #[] 66)) = .ok (.slice A1 m C1) W2 ∧
      (Builtin.append_ #[60, 60] 60 #[.slice A1 m C1, .slice (some ⟨W2.heap.size, 0, none⟩) 1 1]).run Try.prog (W2.alloc (.cells #[.int .i64 i, .int .i64 d, .int .i64 n] 66)) = .ok (.slice A2 (m + 1) C2) W3 ∧
      PcA W3 A2 (L ++ [⟨i, d, n⟩]) ∧ (A2 = none → C2 = 0) ∧ Below w.heap.size w W2 ∧ Below w.heap.size w W3 := by
  obtain ⟨t, hi, hz0, hz1, hz2⟩ := info_parts infoRPrice
  obtain ⟨W, hW⟩ : ∃ W, W = w.alloc (.cells #[] 66) := ⟨_, rfl⟩
  have hb : Below w.heap.size w W := by rw [hW]; exact boxed _ _
  have hg : Has W w.heap.size 66 #[] := by rw [hW]; exact Has.fresh _ _ _
  have hown : W.ownsRow w.heap.size 66 3 (.slice (some ⟨w.heap.size, 0, none⟩) 0 0) 0 [] := ⟨rfl, .inr ⟨w.heap.size, 0, #[], rfl, Nat.le_refl _, hg, Nat.le_refl _, by unfold maxLen; omega, rfl, rfl⟩⟩
  have hL1 := hL.up hb
  obtain ⟨A1, C1, W2, hr1, ho1, hb2⟩ : ∃ A1 C1 W2, (Builtin.append_ #[60, 60] 60 #[.slice (some ⟨w.heap.size, 0, none⟩) 0 0, .slice la m lc]).run Try.prog W = .ok (.slice A1 m C1) W2 ∧ W2.ownsRow w.heap.size 66 3 (.slice A1 m C1) m (L.flatMap Pc.cells) ∧ Below w.heap.size w W2 := by
    cases la with
    | none =>
      have hL0 : L = [] := by
        rcases hL with h | ⟨b, o, e, _⟩
        · exact h
        · cases e
      subst hL0
      have hc := hn rfl
      subst hc
      obtain rfl : m = 0 := hm.symm
      refine ⟨_, _, W, ?_, hown, hb⟩
      simp [Builtin.append_, run_underlying Try.underlying60, sizeOf, typeInfo, hi, Builtin.lenOf, Builtin.firstCells, loadCells, loadCellsFrom, storeCells]
    | some ad =>
      obtain ⟨v', w5, hr, ho, hg5, _⟩ := run_append_own (P := Try.prog) W w.heap.size 60 60 66 t _ 3 24 Try.underlying60 hi hz0 hz1 hz2 rfl (by decide) _ 0 [] hown ad m lc (L.flatMap Pc.cells) (by rw [flat_len pc_len, hm])
        (fun j u hj => by
          have hL2 := hL1
          rcases hL1 with h | ⟨b, o, e, _⟩
          · rw [h] at hj; simp at hj
          · obtain rfl : ad = ⟨b, o, none⟩ := Option.some.inj e
            rw [addr_off]; exact hL2.flat pc_len j u hj) (pc_one L) (by unfold maxLen; omega) (by omega) hb.size
      rw [List.nil_append, Nat.zero_add] at ho
      obtain ⟨a', c', rfl⟩ := own_formb ho
      exact ⟨a', c', w5, hr, ho, hb.grown hg5 hb.size (fun j hj => by injection hj with hj; have hj : w.heap.size = j := hj; omega)⟩
  have hy := Has.fresh W2 66 #[.int .i64 i, .int .i64 d, .int .i64 n]
  have ho1' : (W2.alloc (.cells #[.int .i64 i, .int .i64 d, .int .i64 n] 66)).ownsRow w.heap.size 66 3 (.slice A1 m C1) m (L.flatMap Pc.cells) := World.ownsRow.kept ho1 (World.grownBy_alloc W2 _ none) (by cases (Value.slice A1 m C1).ownBlock <;> simp)
  have hb2' : Below w.heap.size w (W2.alloc (.cells #[.int .i64 i, .int .i64 d, .int .i64 n] 66)) := hb2.alloc hb2.size _
  obtain ⟨v2, W3, hr2, ho2, hg2, hnil⟩ := run_append_own (P := Try.prog) (W2.alloc (.cells #[.int .i64 i, .int .i64 d, .int .i64 n] 66)) w.heap.size 60 60 66 t _ 3 24 Try.underlying60 hi hz0 hz1 hz2 rfl (by decide) _ m _ ho1' ⟨W2.heap.size, 0, none⟩ 1 1 (Pc.cells ⟨i, d, n⟩) rfl
    (fun j u hu => by
      rw [addr_off, Nat.zero_add, hy.cell]
      exact (List.getElem?_toArray (xs := Pc.cells ⟨i, d, n⟩) (i := j)).trans hu) (fun u hu => by simp [Pc.cells] at hu; rcases hu with rfl | rfl | rfl <;> rfl) (by unfold maxLen; omega) (by omega) hb2'.size
  obtain ⟨A2, C2, rfl⟩ := own_formb ho2
  have hfl : L.flatMap Pc.cells ++ Pc.cells ⟨i, d, n⟩ = (L ++ [(⟨i, d, n⟩ : Pc)]).flatMap Pc.cells := by simp
  rw [hfl] at ho2
  refine ⟨A1, C1, W2, A2, C2, W3, by rw [← hW]; exact hr1, hr2, (own_rws pc_len ho2 (by simp [hm])).1, fun e => ?_, hb2, hb2'.grown hg2 hb2'.size (fun j hj => (World.ownsRow.lt ho1' j hj).1)⟩
  subst e
  rcases ho2.2 with ⟨e, _⟩ | ⟨g, cp, cur, e, _⟩
  · injection e
  · cases e
set_option maxRecDepth 100000 in
set_option maxHeartbeats 2000000 in
theorem qset_name (i d n : Int) (h : Rb w p S) (h1 : hasB S i = false) : Calls Try.prog 11 #[.pointer (some ⟨p, 0, none⟩), .int .i64 i, .int .i64 d, .int .i64 n] w (QSetR w p S i d n) := by
  have hE : setE S i d n = 5 := by unfold setE; rw [if_pos h1]
  have HB := Lib.hid h
  have HE := Lib.hid hE
  obtain ⟨qa, qc, la, lc, hx⟩ := h
  have c0 := hx.c0
  have hno : ¬ (0 ≤ i ∧ i < S.I.length) := fun z => by rw [hasB_iff.2 z] at h1; cases h1
  by_cases q : i < 0
  · have t0 : decide (i < 0) = true := decide_eq_true q
    clear hx h1 hE hno q
    go_enter Try.func11, Try.ntmps11
    go_wp2_with fail
    go_ret
    exact qsetR_same HB.out HE.out (by omega) (Below.refl _ _)
  · have t0 : decide (i < 0) = false := decide_eq_false q
    have t1 : decide ((S.I.length : Int) ≤ i) = true := decide_eq_true (by omega)
    clear hx h1 hE hno q
    go_enter Try.func11, Try.ntmps11
    go_wp2_with fail
    go_ret
    exact qsetR_same HB.out HE.out (by omega) (Below.refl _ _)
set_option maxRecDepth 100000 in
set_option maxHeartbeats 2000000 in
theorem qset_arg (i d n : Int) (h : Rb w p S) (h1 : hasB S i = true) (h2 : d < 1 ∨ 1000000 < d ∨ n < 1) : Calls Try.prog 11 #[.pointer (some ⟨p, 0, none⟩), .int .i64 i, .int .i64 d, .int .i64 n] w (QSetR w p S i d n) := by
  have hE : setE S i d n = 1 := by unfold setE; rw [if_neg (by rw [h1]; simp), if_pos h2]
  have HB := Lib.hid h
  have HE := Lib.hid hE
  obtain ⟨qa, qc, la, lc, hx⟩ := h
  have c0 := hx.c0
  have hI := hasB_iff.1 h1
  have t0 : decide (i < 0) = false := decide_eq_false (by omega)
  have t1 : decide ((S.I.length : Int) ≤ i) = false := decide_eq_false (by omega)
  by_cases q1 : d < 1
  · have t2 : decide (d < 1) = true := decide_eq_true q1
    clear hx h1 hE hI h2 q1
    go_enter Try.func11, Try.ntmps11
    go_wp2_with fail
    go_ret
    exact qsetR_same HB.out HE.out (by omega) (Below.refl _ _)
  · have t2 : decide (d < 1) = false := decide_eq_false q1
    by_cases q2 : 1000000 < d
    · have t3 : decide (1000000 < d) = true := decide_eq_true q2
      clear hx h1 hE hI h2 q1 q2
      go_enter Try.func11, Try.ntmps11
      go_wp2_with fail
      go_ret
      exact qsetR_same HB.out HE.out (by omega) (Below.refl _ _)
    · have t3 : decide (1000000 < d) = false := decide_eq_false q2
      have t4 : decide (n < 1) = true := decide_eq_true (by omega)
      clear hx h1 hE hI h2 q1 q2
      go_enter Try.func11, Try.ntmps11
      go_wp2_with fail
      go_ret
      exact qsetR_same HB.out HE.out (by omega) (Below.refl _ _)
set_option maxRecDepth 100000 in
set_option maxHeartbeats 8000000 in
theorem qset_in (i d n : Int) (h : Rb w p S) (h1 : hasB S i = true) (h2 : 1 ≤ d) (h3 : d ≤ 1000000) (h4 : 1 ≤ n) (hl : S.L.length ≤ 1000) : Calls Try.prog 11 #[.pointer (some ⟨p, 0, none⟩), .int .i64 i, .int .i64 d, .int .i64 n] w (QSetR w p S i d n) := by
  have HB := Lib.hid h
  have hEv : setE S i d n = if twiB S.L i d = true then 6 else if 100 ≤ (ofIt S.L i).length then 4 else 0 := by
    unfold setE
    rw [if_neg (by rw [h1]; simp), if_neg (by omega)]
  have hI := hasB_iff.1 h1
  obtain ⟨qa, qc, la, lc, hx⟩ := h
  have c0 := hx.c0
  have c1 := hx.c1
  have f1 := hx.book.free 1
  have t0 : decide (i < 0) = false := decide_eq_false (by omega)
  have t1 : decide ((S.I.length : Int) ≤ i) = false := decide_eq_false (by omega)
  have t2 : decide (d < 1) = false := decide_eq_false (by omega)
  have t3 : decide (1000000 < d) = false := decide_eq_false (by omega)
  have t4 : decide (n < 1) = false := decide_eq_false (by omega)
  have HEv := Lib.hid hEv
  have HX := Lib.hid hx
  obtain ⟨m, hm⟩ : ∃ m, m = S.L.length := ⟨_, rfl⟩
  have HM := Lib.hid hm
  have HF1 := Lib.hid f1
  rw [← hm] at hl c1
  have HC1 := Lib.hid c1
  clear hEv hx h1 hI hm f1 h2 h3 h4
  go_enter Try.func11, Try.ntmps11
  go_wp2_with fail
  clear c0 t0 t1 t2 t3 t4
  go_loop [9, 10] (fun many j => ∃ k : Nat, k ≤ m ∧ j = .int .i64 (k : Int) ∧ many = .int .i64 ((ofIt (S.L.take k) i).length : Int) ∧ ∀ x ∈ S.L.take k, ¬ (x.it = i ∧ x.dy = d)) (fun _ j => m - (intOf j).toNat)
  case atStart => exact ⟨0, Nat.zero_le _, rfl, rfl, fun x hx => by simp at hx⟩
  case round =>
    obtain ⟨k, hk, rfl, rfl, hno⟩ := hrel
    have HNo := Lib.hid hno
    obtain ⟨c, hc⟩ : ∃ c, c = (ofIt (S.L.take k) i).length := ⟨_, rfl⟩
    have hcl : c ≤ k := by
      rw [hc]
      have h1 := List.length_filter_le (fun x : Pc => decide (x.it = i)) (S.L.take k)
      have h2 : (S.L.take k).length ≤ k := List.length_take_le _ _
      unfold ofIt; omega
    have HCt := Lib.hid hc
    rw [← hc]
    clear hno hc
    by_cases hlt : k < m
    · obtain ⟨x, hxk⟩ : ∃ x, S.L[k]? = some x := ⟨S.L[k]'(by rw [← HM.out]; exact hlt), List.getElem?_eq_getElem _⟩
      obtain ⟨b2, o2, hab, e0, e1, e2⟩ := pc_at HX.out.pcs hxk
      subst hab
      have hcn : ((ofIt (S.L.take (k + 1)) i).length : Int) = if x.it = i then (c : Int) + 1 else (c : Int) := by
        rw [List.take_add_one, hxk, HCt.out]
        show ((ofIt (S.L.take k ++ [x]) i).length : Int) = _
        rw [ofIt_snoc]
        by_cases z : x.it = i <;> simp [z]
      have HCn := Lib.hid hcn
      have HXk := Lib.hid hxk
      clear hcn hxk
      by_cases q1 : x.it = i
      · have r1 : (x.it == i) = true := by simpa using q1
        by_cases q2 : x.dy = d
        · have r2 : (x.dy == d) = true := by simpa using q2
          have hE : setE S i d n = 6 := by rw [HEv.out, if_pos (twiB_iff.2 ⟨x, List.mem_of_getElem? HXk.out, q1, q2⟩)]
          have HE := Lib.hid hE
          clear q1 q2 hE
          go_wp2_with fail
          go_ret
          exact qsetR_same HB.out HE.out (by omega) (Below.refl _ _)
        · have r2 : (x.dy == d) = false := by simpa using q2
          have hn1 : Hid (∀ y ∈ S.L.take (k + 1), ¬ (y.it = i ∧ y.dy = d)) := fun y hy => by
            rw [List.take_add_one, HXk.out] at hy
            rcases List.mem_append.1 hy with hy | hy
            · exact HNo.out y hy
            · have hy : y ∈ [x] := hy
              rw [List.mem_singleton.1 hy]; exact fun z => q2 z.2
          have hcv : Hid (((ofIt (S.L.take (k + 1)) i).length : Int) = (c : Int) + 1) := by
            have := HCn.out
            rw [if_pos q1] at this; exact this
          clear q1 q2
          go_wp2_with fail
          go_round
          case rel => exact ⟨k + 1, by omega, by go_num, by rw [hcv.out], hn1.out⟩
          case measure => simp [intOf]; omega
      · have r1 : (x.it == i) = false := by simpa using q1
        have hn1 : Hid (∀ y ∈ S.L.take (k + 1), ¬ (y.it = i ∧ y.dy = d)) := fun y hy => by
          rw [List.take_add_one, HXk.out] at hy
          rcases List.mem_append.1 hy with hy | hy
          · exact HNo.out y hy
          · have hy : y ∈ [x] := hy
            rw [List.mem_singleton.1 hy]; exact fun z => q1 z.1
        have hcv : Hid (((ofIt (S.L.take (k + 1)) i).length : Int) = (c : Int)) := by
          have := HCn.out
          rw [if_neg q1] at this; exact this
        clear q1
        go_wp2_with fail
        go_round
        case rel => exact ⟨k + 1, by omega, by go_num, by rw [hcv.out], hn1.out⟩
        case measure => simp [intOf]; omega
    · obtain rfl : k = m := by omega
      have hall : S.L.take k = S.L := List.take_of_length_le (by rw [HM.out]; exact Nat.le_refl _)
      have hno := HNo.out
      have hct := HCt.out
      rw [hall] at hno hct
      have hq : ¬ twiB S.L i d = true := fun z => by
        obtain ⟨x, hx, e⟩ := twiB_iff.1 z
        exact hno x hx e
      have hE : setE S i d n = if 100 ≤ c then 4 else 0 := by rw [HEv.out, if_neg hq, hct]
      clear hall hno hct hq
      by_cases hf : 100 ≤ c
      · rw [if_pos hf] at hE
        have HE := Lib.hid hE
        have hf' : (100 : Int) ≤ (c : Int) := by omega
        clear hE hf
        go_wp2_with fail
        go_ret
        exact qsetR_same HB.out HE.out (by omega) (Below.refl _ _)
      · rw [if_neg hf] at hE
        have HE := Lib.hid hE
        have hf' : ¬ (100 : Int) ≤ (c : Int) := by omega
        obtain ⟨A1, C1, W2, A2, C2, W3, hr1, hr2, hpc, hnil, hb2, hb3⟩ := qset_apps (L := S.L) (lc := lc) i d n HM.out.symm hl HX.out.pcs HX.out.nil
        obtain ⟨W1, hW1⟩ : ∃ W1, W1 = w.alloc (.cells #[] 66) := ⟨_, rfl⟩
        obtain ⟨W2', hW2⟩ : ∃ W2', W2' = W2.alloc (.cells #[.int .i64 i, .int .i64 d, .int .i64 n] 66) := ⟨_, rfl⟩
        have HR1 := Lib.hid hr1
        have HR2 := Lib.hid hr2
        have HPc := Lib.hid hpc
        have HNil := Lib.hid hnil
        have HB3 := Lib.hid hb3
        have g1 := kcell (boxed w (.cells #[] 66)) HC1.out
        have g2 := kcell hb3 HC1.out
        have gf := (hb3.frozen (p := ⟨p, 1, none⟩) HB.out.lt).trans HF1.out
        clear hE hf hr1 hr2 hpc hnil hb2 hb3 hW1 hW2
        go_wp2_with (first | (refine wpList_run (o := ⟨some 71, _, _, _, _, _⟩) rfl (.tmp 66) (.tmp 70) 60 rfl _ _ rfl rfl (S := fun u q => .slice A1 k C1 = u ∧ W2 = q) ⟨_, _, HR1.out, rfl, rfl⟩ ?_; rintro u q ⟨rfl, rfl⟩) | (refine wpList_run (o := ⟨some 77, _, _, _, _, _⟩) rfl (.tmp 71) (.tmp 76) 60 rfl _ _ rfl rfl (S := fun u q => .slice A2 (k + 1) C2 = u ∧ W3 = q) ⟨_, _, HR2.out, rfl, rfl⟩ ?_; rintro u q ⟨rfl, rfl⟩) | fail)
        go_ret
        exact ⟨by rw [HE.out]; rfl, HX.out.set HB3.out HM.out HE.out HPc.out HNil.out, grown_trans (grown_of HB3.out _) (grown_set _ _ _ _)⟩
theorem qset_any (i d n : Int) (h : Rb w p S) (hl : S.L.length ≤ 1000) : Calls Try.prog 11 #[.pointer (some ⟨p, 0, none⟩), .int .i64 i, .int .i64 d, .int .i64 n] w (QSetR w p S i d n) := by
  cases h1 : hasB S i with
  | false => exact qset_name i d n h h1
  | true =>
    by_cases h2 : d < 1 ∨ 1000000 < d ∨ n < 1
    · exact qset_arg i d n h h1 h2
    · exact qset_in i d n h h1 (by omega) (by omega) (by omega) hl
end
end Go.Proofs.Ytealaedcjhofbaa
