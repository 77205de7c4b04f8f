/- isDay, mayBe, Clone of numbers, copied. -/
import Derived.Deep.RegionLaw
import Derived.Laws.Rows
import Derived.Maps.AppendAt
import Derived.Lib.AppendZeros
import Derived.Lib.SliceRun
import Derived.Test.YtobdcogaphkogaaDnMem
namespace Go.Proofs.Ytobdcogaphkogaa
open Go.RowKit

def dayB (d : Int) : Bool := decide (1 ≤ d) && decide (d ≤ 1000000)
set_option maxRecDepth 100000 in
set_option maxHeartbeats 400000 in
theorem isDay_any (d : Int) (w : World) : Calls Try.prog 57 #[.int .i64 d] w fun e w' => e = .returned (.bool (dayB d)) ∧ w = w' := by
  unfold dayB
  by_cases h1 : 1 ≤ d
  · by_cases h2 : d ≤ 1000000
    · rw [decide_eq_true h1, decide_eq_true h2]
      go_enter Try.func57, Try.ntmps57
      go_wp2_with fail
      go_ret
      exact ⟨by simp, rfl⟩
    · rw [decide_eq_true h1, decide_eq_false h2]
      go_enter Try.func57, Try.ntmps57
      go_wp2_with fail
      go_ret
      exact ⟨by simp, rfl⟩
  · rw [decide_eq_false h1]
    go_enter Try.func57, Try.ntmps57
    go_wp2_with fail
    go_ret
    exact ⟨by simp, rfl⟩
theorem dtB_days (d : Dt) : dtB d = (decide (0 ≤ d.me) && decide (d.me ≤ 3) && decide (1 ≤ d.un) && dayB d.fi && dayB d.la && decide (d.fi ≤ d.la)) := by
  have h := @dtB_iff d
  unfold dayB
  rw [Bool.eq_iff_iff, h]
  simp only [Bool.and_eq_true, decide_eq_true_eq, and_assoc]
  omega
def Dt.val (d : Dt) (a : Option Addr) (c : Nat) : Value := .agg #[.slice a d.ls.length c, .int .i64 d.al, .int .i64 d.un, .int .i64 d.me, .int .i64 d.fi, .int .i64 d.la]
set_option maxRecDepth 100000 in
set_option maxHeartbeats 4000000 in
theorem mayBe_any14 (d : Dt) (a : Option Addr) (c : Nat) (w : World) : Calls Try.prog 43 #[d.val a c] w fun e w' => e = .returned (.bool (dtB d)) ∧ Below w.heap.size w w' := by
  rw [dtB_days]
  obtain ⟨ls, al, un, me, fi, la⟩ := d
  unfold Dt.val
  simp only
  generalize ls.length = n
  have HI := Lib.hid (fun (W : World) => isDay_any fi W)
  have HL := Lib.hid (fun (W : World) => isDay_any la W)
  by_cases h1 : 0 ≤ me
  rotate_left
  · rw [decide_eq_false h1]
    go_enter Try.func43, Try.ntmps43
    go_wp2_with fail
    go_ret
    exact ⟨by simp, boxed _ _⟩
  by_cases h2 : me ≤ 3
  rotate_left
  · rw [decide_eq_true h1, decide_eq_false h2]
    go_enter Try.func43, Try.ntmps43
    go_wp2_with fail
    go_ret
    exact ⟨by simp, boxed _ _⟩
  by_cases h3 : 1 ≤ un
  rotate_left
  · rw [decide_eq_true h1, decide_eq_true h2, decide_eq_false h3]
    go_enter Try.func43, Try.ntmps43
    go_wp2_with fail
    go_ret
    exact ⟨by simp, boxed _ _⟩
  cases h4 : dayB fi with
  | false =>
    rw [decide_eq_true h1, decide_eq_true h2, decide_eq_true h3]
    rw [h4] at HI
    clear h4
    go_enter Try.func43, Try.ntmps43
    go_wp2_with fail
    refine (HI.out _).mono ?_
    rintro e w1 ⟨rfl, rfl⟩
    go_wp2_with fail
    go_ret
    exact ⟨by simp, boxed _ _⟩
  | true =>
    rw [decide_eq_true h1, decide_eq_true h2, decide_eq_true h3]
    rw [h4] at HI
    clear h4
    cases h5 : dayB la with
    | false =>
      rw [h5] at HL
      clear h5
      go_enter Try.func43, Try.ntmps43
      go_wp2_with fail
      refine (HI.out _).mono ?_
      rintro e w1 ⟨rfl, rfl⟩
      go_wp2_with fail
      refine (HL.out _).mono ?_
      rintro e w1 ⟨rfl, rfl⟩
      go_wp2_with fail
      go_ret
      exact ⟨by simp, boxed _ _⟩
    | true =>
      rw [h5] at HL
      clear h5
      obtain ⟨b, hb⟩ : ∃ b, b = decide (fi ≤ la) := ⟨_, rfl⟩
      rw [← hb]
      go_enter Try.func43, Try.ntmps43
      go_wp2_with fail
      refine (HI.out _).mono ?_
      rintro e w1 ⟨rfl, rfl⟩
      go_wp2_with fail
      refine (HL.out _).mono ?_
      rintro e w1 ⟨rfl, rfl⟩
      go_wp2_with fail
      go_ret
      exact ⟨by rw [hb]; simp, boxed _ _⟩

theorem infoIntn : (Try.prog.info? 3).map (fun i => (i.zero, i.size, i.bytes)) = some (some (.int .i64 0), 1, 8) := by kernel_rfl
/-- numbers that were copied -/
def NClR (w : World) (l : List Int) (v : Value) (w' : World) : Prop := ∃ a cap, v = .slice a l.length cap ∧ w'.ownsRow 0 3 1 (.slice a l.length cap) l.length (l.flatMap inC) ∧ Below w.heap.size w w'
theorem own_zero {w : World} {B T z n : Nat} {v : Value} {xs : List Value} (h : w.ownsRow B T z v n xs) : w.ownsRow 0 T z v n xs := by
  refine ⟨h.1, ?_⟩
  rcases h.2 with h | ⟨g, cap, cur, e, _, h⟩
  · exact .inl h
  · exact .inr ⟨g, cap, cur, e, Nat.zero_le _, h⟩
/-- an append of numbers to an empty row -/
theorem app_ints (ty : TypeId) {w W : World} {g : Nat} {a : Option Addr} {I : List Int} {n cap : Nat} (hn : I.length = n) (h2 : n ≤ 17592186044416) (hI : InA W a I) (ha : a = none → cap = 0) (hb : Below w.heap.size w W) (hg : Has W g 3 #[]) (hgs : w.heap.size ≤ g) :
    ∃ v' w', (Builtin.append_ #[22, 22] ty #[.slice (some ⟨g, 0, none⟩) 0 0, .slice a n cap]).run Try.prog W = .ok v' w' ∧ NClR w I v' w' := by
  obtain ⟨i, hi, hz0, hz1, hz2⟩ := info_parts infoIntn
  have hown : W.ownsRow w.heap.size 3 1 (.slice (some ⟨g, 0, none⟩) 0 0) 0 [] := ⟨rfl, .inr ⟨g, 0, #[], rfl, hgs, hg, Nat.le_refl _, by unfold maxLen; omega, rfl, rfl⟩⟩
  cases a with
  | none =>
    have hI0 : I = [] := by
      rcases hI with h | ⟨b, o, e, _⟩
      · exact h
      · cases e
    subst hI0
    have hc := ha rfl
    subst hc
    obtain rfl : n = 0 := hn.symm
    refine ⟨.slice (some ⟨g, 0, none⟩) 0 0, W, ?_, ⟨_, _, rfl, own_zero hown, hb⟩⟩
    simp [Builtin.append_, run_underlying Try.underlying22, sizeOf, typeInfo, hi, Builtin.lenOf, Builtin.firstCells, loadCells, loadCellsFrom, storeCells]
  | some ad =>
    have hnews : ∀ (j : Nat) (u : Value), (I.flatMap inC)[j]? = some u → W.cell? (ad.add j) = some u := fun j u hj => by
      have hI2 := hI
      rcases hI with h | ⟨b, o, e, _⟩
      · rw [h] at hj; simp at hj
      · obtain rfl : ad = ⟨b, o, none⟩ := Option.some.inj e
        rw [addr_off]; exact hI2.flat in_len j u hj
    obtain ⟨v', w5, hr, ho, hg5, _⟩ := run_append_own (P := Try.prog) W w.heap.size 22 ty 3 i _ 1 8 Try.underlying22 hi hz0 hz1 hz2 rfl (by decide) _ 0 [] hown ad n cap (I.flatMap inC) (by rw [flat_len in_len, hn]) hnews (in_one I) (by unfold maxLen; omega) (by omega) hb.size
    rw [List.nil_append, Nat.zero_add] at ho
    obtain ⟨a', c', rfl⟩ := own_formb ho
    subst hn
    exact ⟨_, _, hr, ⟨a', c', rfl, own_zero ho, hb.grown hg5 hb.size (fun j hj => by injection hj with hj; have hj : g = j := hj; omega)⟩⟩
set_option maxRecDepth 100000 in
set_option maxHeartbeats 2000000 in
theorem nclone_any (a : Option Addr) (n cap : Nat) (I : List Int) (w : World) (hn : I.length = n) (h2 : n ≤ 17592186044416) (hI : InA w a I) (ha : a = none → cap = 0) :
    Calls Try.prog 55 #[.slice a n cap] w fun e w' => ∃ v, e = .returned v ∧ NClR w I v w' := by
  have en := Lib.run_eql_slice_nil (P := Try.prog) w 22 3 a n cap 0 0 Try.underlying22
  cases a with
  | none =>
    have hI0 : I = [] := by
      rcases hI with h | ⟨b, o, e, _⟩
      · exact h
      · cases e
    subst hI0
    obtain rfl : n = 0 := hn.symm
    clear hI ha hn
    go_enter Try.func55, Try.ntmps55
    go_wp2_with fail
    go_ret
    exact ⟨_, rfl, none, 0, rfl, World.ownsRow_nil _ _ _ _, Below.refl _ _⟩
  | some ad =>
    obtain ⟨W1, hW1⟩ : ∃ W1, W1 = w.alloc (.cells #[] 3) := ⟨_, rfl⟩
    have hb1 : Below w.heap.size w W1 := by rw [hW1]; exact boxed _ _
    obtain ⟨v', w5, hr, hcl⟩ := app_ints 22 hn h2 (hI.up hb1) ha hb1 (by rw [hW1]; exact Has.fresh _ _ _) (Nat.le_refl _)
    have HR := Lib.hid hr
    have HC := Lib.hid hcl
    have HW1 := Lib.hid hW1
    clear hI ha hn hb1 hr hcl hW1
    go_enter Try.func55, Try.ntmps55
    go_wp2_with (first | (rw [← HW1.out]; refine wpList_run rfl (.tmp 5) (.tmp 6) 22 rfl _ _ rfl rfl (S := fun u q => u = v' ∧ q = w5) ⟨v', w5, HR.out, rfl, rfl⟩ ?_; rintro u q ⟨rfl, rfl⟩) | fail)
    go_ret
    exact ⟨_, rfl, HC.out⟩
/-- all six cells of a block written -/
def put6 (w : World) (g : Nat) (b0 b1 b2 b3 b4 b5 : Value) : World :=
  (((((w.setCell ⟨g, 0, none⟩ b0).setCell ⟨g, 1, none⟩ b1).setCell ⟨g, 2, none⟩ b2).setCell ⟨g, 3, none⟩ b3).setCell ⟨g, 4, none⟩ b4).setCell ⟨g, 5, none⟩ b5
theorem put6_has {w : World} {g T : Nat} {a0 a1 a2 a3 a4 a5 : Value} (h : Has w g T #[a0, a1, a2, a3, a4, a5]) (b0 b1 b2 b3 b4 b5 : Value) : Has (put6 w g b0 b1 b2 b3 b4 b5) g T #[b0, b1, b2, b3, b4, b5] :=
  (((((h.put 0 b0).put 1 b1).put 2 b2).put 3 b3).put 4 b4).put 5 b5
theorem put6_grown (w : World) (g : Nat) (b0 b1 b2 b3 b4 b5 : Value) : w.grownBy (put6 w g b0 b1 b2 b3 b4 b5) (some g) :=
  grown_trans (grown_trans (grown_trans (grown_trans (grown_trans (grown_set _ _ _ _) (grown_set _ _ _ _)) (grown_set _ _ _ _)) (grown_set _ _ _ _)) (grown_set _ _ _ _)) (grown_set _ _ _ _)
theorem own_beside {w w' : World} {B T z n g T' : Nat} {v : Value} {xs : List Value} {cs : Array Value} (h : w.ownsRow B T z v n xs) (hh : Has w g T' cs) (hT : T ≠ T') (q : w.grownBy w' (some g)) : w'.ownsRow B T z v n xs := h.kept q (.inr (own_ne h hh hT))
/-- what copied answers -/
def CopR14 (w : World) (d : Dt) (e : Ending) (w' : World) : Prop := ∃ a c, e = .returned (d.val a c) ∧ w'.ownsRow 0 3 1 (.slice a d.ls.length c) d.ls.length (d.ls.flatMap inC) ∧ Below w.heap.size w w'
set_option maxRecDepth 100000 in
set_option maxHeartbeats 2000000 in
theorem copied_any (d : Dt) (a : Option Addr) (c : Nat) (w : World) (h2 : d.ls.length ≤ 17592186044416) (hI : InA w a d.ls) (ha : a = none → c = 0) : Calls Try.prog 40 #[d.val a c] w (CopR14 w d) := by
  unfold CopR14
  obtain ⟨ls, al, un, me, fi, la⟩ := d
  simp only [Dt.val] at hI h2 ⊢
  obtain ⟨n, hn⟩ : ∃ n, n = ls.length := ⟨_, rfl⟩
  have HI := Lib.hid hI
  have HA := Lib.hid ha
  have HN := Lib.hid hn
  rw [← hn] at h2 ⊢
  clear hI ha hn
  go_enter Try.func40, Try.ntmps40
  go_wp2_with fail
  have hx := (Has.fresh w 24 #[.slice a n c, .int .i64 al, .int .i64 un, .int .i64 me, .int .i64 fi, .int .i64 la]).up (boxed _ (.cells #[.slice none 0 0, .int .i64 0, .int .i64 0, .int .i64 0, .int .i64 0, .int .i64 0] 24))
  have hy := Has.fresh (w.alloc (.cells #[.slice a n c, .int .i64 al, .int .i64 un, .int .i64 me, .int .i64 fi, .int .i64 la] 24)) 24 #[.slice none 0 0, .int .i64 0, .int .i64 0, .int .i64 0, .int .i64 0, .int .i64 0]
  rw [show (w.alloc (.cells #[.slice a n c, .int .i64 al, .int .i64 un, .int .i64 me, .int .i64 fi, .int .i64 la] 24)).heap.size = w.heap.size + 1 by simp] at hy
  have hb0 := up2 (boxed w (.cells #[.slice a n c, .int .i64 al, .int .i64 un, .int .i64 me, .int .i64 fi, .int .i64 la] 24)) (boxed _ (.cells #[.slice none 0 0, .int .i64 0, .int .i64 0, .int .i64 0, .int .i64 0, .int .i64 0] 24))
  have hcl := nclone_any a n c ls _ HN.out.symm h2 (HI.out.up hb0) HA.out
  have HX := Lib.hid hx
  have HY := Lib.hid hy
  have HB0 := Lib.hid hb0
  clear hx hy hb0
  refine hcl.mono ?_
  rintro e w3 ⟨v, rfl, a', c', rfl, hown, hb⟩
  rw [← HN.out]
  have hx := HX.out.up hb
  have hy := HY.out.up hb
  have x0 := hx.cell 0
  have x1 := hx.cell 1
  have x2 := hx.cell 2
  have x3 := hx.cell 3
  have x4 := hx.cell 4
  have x5 := hx.cell 5
  have xf := hx.free 0
  have yf0 := hy.free 0
  have yf1 := hy.free 1
  have yf2 := hy.free 2
  have yf3 := hy.free 3
  have yf4 := hy.free 4
  have yf5 := hy.free 5
  have y0 := hy.cell 0
  have y1 := hy.cell 1
  have y2 := hy.cell 2
  have y3 := hy.cell 3
  have y4 := hy.cell 4
  have y5 := hy.cell 5
  have HX3 := Lib.hid hx
  have HY3 := Lib.hid hy
  have HO := Lib.hid hown
  have HB := Lib.hid (up2 HB0.out hb)
  clear hcl hx hy hown hb
  simp at x0 x1 x2 x3 x4 x5 y0 y1 y2 y3 y4 y5
  go_wp2_with fail
  obtain ⟨W4, hW4⟩ : ∃ W4, W4 = w3.setCell ⟨w.heap.size, 0, none⟩ (.slice a' n c') := ⟨_, rfl⟩
  obtain ⟨Wf, hWf⟩ : ∃ Wf, Wf = put6 W4 (w.heap.size + 1) (.slice a' n c') (.int .i64 al) (.int .i64 un) (.int .i64 me) (.int .i64 fi) (.int .i64 la) := ⟨_, rfl⟩
  have g1 : w3.grownBy W4 (some w.heap.size) := by rw [hW4]; exact grown_set _ _ _ _
  have hy4 : Has W4 (w.heap.size + 1) 24 #[.slice none 0 0, .int .i64 0, .int .i64 0, .int .i64 0, .int .i64 0, .int .i64 0] := (g1.block _ HY3.out.lt (by simp)).trans HY3.out
  have g2 : W4.grownBy Wf (some (w.heap.size + 1)) := by rw [hWf]; exact put6_grown _ _ _ _ _ _ _ _
  have hf : Has Wf (w.heap.size + 1) 24 #[.slice a' n c', .int .i64 al, .int .i64 un, .int .i64 me, .int .i64 fi, .int .i64 la] := by rw [hWf]; exact put6_has hy4 _ _ _ _ _ _
  have ho4 := own_beside HO.out HX3.out (by decide) g1
  have hof := own_beside ho4 hy4 (by decide) g2
  have r0 := hf.cell 0
  have r1 := hf.cell 1
  have r2 := hf.cell 2
  have r3 := hf.cell 3
  have r4 := hf.cell 4
  have r5 := hf.cell 5
  have hb4 := HB.out.grown g1 HB.out.size (fun j hj => by injection hj with hj; omega)
  have hbf := hb4.grown g2 hb4.size (fun j hj => by injection hj with hj; omega)
  rw [← hW4]
  unfold put6 at hWf
  rw [← hWf]
  simp at r0 r1 r2 r3 r4 r5
  refine bodyPost_ret (v := .agg #[.slice a' n c', .int .i64 al, .int .i64 un, .int .i64 me, .int .i64 fi, .int .i64 la]) (by simp [results, Try.results40, go_sem, r0, r1, r2, r3, r4, r5]) rfl ⟨a', c', rfl, ?_, hbf⟩
  rw [← HN.out] at hof
  exact hof
end Go.Proofs.Ytobdcogaphkogaa
