/- isDay, mayBe, Clone of numbers, copied. -/
import Derived.Deep.RegionLaw
import Derived.Laws.Rows
import Derived.Maps.AppendAt
import Derived.Lib.AppendZeros
import Derived.Lib.SliceRun
import Derived.Test.YtklaonoekmhakaaGreatDnMem
import Derived.Test.YtklaonoekmhakaaGreatDuA
import Derived.Test.YtklaonoekmhakaaGreatAlMath
import Derived.Test.YtklaonoekmhakaaGreatBoA
namespace Go.Proofs.YtklaonoekmhakaaGreat
open Go.RowKit

def dayB (d : Int) : Bool := decide (1 ≤ d) && decide (d ≤ 1000000)
set_option maxRecDepth 100000 in
set_option maxHeartbeats 400000 in
theorem isDay_any (d : Int) (w : World) : Calls Tryz.prog 130 #[.int .i64 d] w fun e w' => e = .returned (.bool (dayB d)) ∧ w = w' := by
  unfold dayB
  by_cases h1 : 1 ≤ d
  · by_cases h2 : d ≤ 1000000
    · rw [decide_eq_true h1, decide_eq_true h2]
      go_enter Tryz.func130, Tryz.ntmps130
      go_wp2_with fail
      go_ret
      exact ⟨by simp, rfl⟩
    · rw [decide_eq_true h1, decide_eq_false h2]
      go_enter Tryz.func130, Tryz.ntmps130
      go_wp2_with fail
      go_ret
      exact ⟨by simp, rfl⟩
  · rw [decide_eq_false h1]
    go_enter Tryz.func130, Tryz.ntmps130
    go_wp2_with fail
    go_ret
    exact ⟨by simp, rfl⟩
theorem dtB_days (d : Dt) : dtB d = (decide (0 ≤ d.me) && decide (d.me ≤ 3) && decide (1 ≤ d.un) && dayB d.fi && dayB d.la && decide (d.fi ≤ d.la)) := by
  have h := @dtB_iff d
  unfold dayB
  rw [Bool.eq_iff_iff, h]
  simp only [Bool.and_eq_true, decide_eq_true_eq, and_assoc]
  omega
def Dt.val (d : Dt) (a : Option Addr) (c : Nat) : Value := .agg #[.slice a d.ls.length c, .int .i64 d.al, .int .i64 d.un, .int .i64 d.me, .int .i64 d.fi, .int .i64 d.la]
set_option maxRecDepth 100000 in
set_option maxHeartbeats 4000000 in
theorem mayBe_any14 (d : Dt) (a : Option Addr) (c : Nat) (w : World) : Calls Tryz.prog 150 #[d.val a c] w fun e w' => e = .returned (.bool (dtB d)) ∧ Below w.heap.size w w' := by
  rw [dtB_days]
  obtain ⟨ls, al, un, me, fi, la⟩ := d
  unfold Dt.val
  simp only
  generalize ls.length = n
  have HI := Lib.hid (fun (W : World) => isDay_any fi W)
  have HL := Lib.hid (fun (W : World) => isDay_any la W)
  by_cases h1 : 0 ≤ me
  rotate_left
  · rw [decide_eq_false h1]
    go_enter Tryz.func150, Tryz.ntmps150
    go_wp2_with fail
    go_ret
    exact ⟨by simp, boxed _ _⟩
  by_cases h2 : me ≤ 3
  rotate_left
  · rw [decide_eq_true h1, decide_eq_false h2]
    go_enter Tryz.func150, Tryz.ntmps150
    go_wp2_with fail
    go_ret
    exact ⟨by simp, boxed _ _⟩
  by_cases h3 : 1 ≤ un
  rotate_left
  · rw [decide_eq_true h1, decide_eq_true h2, decide_eq_false h3]
    go_enter Tryz.func150, Tryz.ntmps150
    go_wp2_with fail
    go_ret
    exact ⟨by simp, boxed _ _⟩
  cases h4 : dayB fi with
  | false =>
    rw [decide_eq_true h1, decide_eq_true h2, decide_eq_true h3]
    rw [h4] at HI
    clear h4
    go_enter Tryz.func150, Tryz.ntmps150
    go_wp2_with fail
    refine (HI.out _).mono ?_
    rintro e w1 ⟨rfl, rfl⟩
    go_wp2_with fail
    go_ret
    exact ⟨by simp, boxed _ _⟩
  | true =>
    rw [decide_eq_true h1, decide_eq_true h2, decide_eq_true h3]
    rw [h4] at HI
    clear h4
    cases h5 : dayB la with
    | false =>
      rw [h5] at HL
      clear h5
      go_enter Tryz.func150, Tryz.ntmps150
      go_wp2_with fail
      refine (HI.out _).mono ?_
      rintro e w1 ⟨rfl, rfl⟩
      go_wp2_with fail
      refine (HL.out _).mono ?_
      rintro e w1 ⟨rfl, rfl⟩
      go_wp2_with fail
      go_ret
      exact ⟨by simp, boxed _ _⟩
    | true =>
      rw [h5] at HL
      clear h5
      obtain ⟨b, hb⟩ : ∃ b, b = decide (fi ≤ la) := ⟨_, rfl⟩
      rw [← hb]
      go_enter Tryz.func150, Tryz.ntmps150
      go_wp2_with fail
      refine (HI.out _).mono ?_
      rintro e w1 ⟨rfl, rfl⟩
      go_wp2_with fail
      refine (HL.out _).mono ?_
      rintro e w1 ⟨rfl, rfl⟩
      go_wp2_with fail
      go_ret
      exact ⟨by rw [hb]; simp, boxed _ _⟩

theorem infoIntn : (Tryz.prog.info? 3).map (fun i => (i.zero, i.size, i.bytes)) = some (some (.int .i64 0), 1, 8) := by kernel_rfl
/-- numbers that were copied -/
def NClR (w : World) (l : List Int) (v : Value) (w' : World) : Prop := ∃ a cap, v = .slice a l.length cap ∧ w'.ownsRow 0 3 1 (.slice a l.length cap) l.length (l.flatMap inC) ∧ Below w.heap.size w w'
theorem own_zero {w : World} {B T z n : Nat} {v : Value} {xs : List Value} (h : w.ownsRow B T z v n xs) : w.ownsRow 0 T z v n xs := by
  refine ⟨h.1, ?_⟩
  rcases h.2 with h | ⟨g, cap, cur, e, _, h⟩
  · exact .inl h
  · exact .inr ⟨g, cap, cur, e, Nat.zero_le _, h⟩
/-- an append of numbers to an empty row -/
theorem app_ints (ty : TypeId) {w W : World} {g : Nat} {a : Option Addr} {I : List Int} {n cap : Nat} (hn : I.length = n) (h2 : n ≤ 17592186044416) (hI : InA W a I) (ha : a = none → cap = 0) (hb : Below w.heap.size w W) (hg : Has W g 3 #[]) (hgs : w.heap.size ≤ g) :
    ∃ v' w', (Builtin.append_ #[49, 49] ty #[.slice (some ⟨g, 0, none⟩) 0 0, .slice a n cap]).run Tryz.prog W = .ok v' w' ∧ NClR w I v' w' := by
  obtain ⟨i, hi, hz0, hz1, hz2⟩ := info_parts infoIntn
  have hown : W.ownsRow w.heap.size 3 1 (.slice (some ⟨g, 0, none⟩) 0 0) 0 [] := ⟨rfl, .inr ⟨g, 0, #[], rfl, hgs, hg, Nat.le_refl _, by unfold maxLen; omega, rfl, rfl⟩⟩
  cases a with
  | none =>
    have hI0 : I = [] := by
      rcases hI with h | ⟨b, o, e, _⟩
      · exact h
      · cases e
    subst hI0
    have hc := ha rfl
    subst hc
    obtain rfl : n = 0 := hn.symm
    refine ⟨.slice (some ⟨g, 0, none⟩) 0 0, W, ?_, ⟨_, _, rfl, own_zero hown, hb⟩⟩
    simp [Builtin.append_, run_underlying Tryz.underlying49, sizeOf, typeInfo, hi, Builtin.lenOf, Builtin.firstCells, loadCells, loadCellsFrom, storeCells]
  | some ad =>
    have hnews : ∀ (j : Nat) (u : Value), (I.flatMap inC)[j]? = some u → W.cell? (ad.add j) = some u := fun j u hj => by
      have hI2 := hI
      rcases hI with h | ⟨b, o, e, _⟩
      · rw [h] at hj; simp at hj
      · obtain rfl : ad = ⟨b, o, none⟩ := Option.some.inj e
        rw [addr_off]; exact hI2.flat in_len j u hj
    obtain ⟨v', w5, hr, ho, hg5, _⟩ := run_append_own (P := Tryz.prog) W w.heap.size 49 ty 3 i _ 1 8 Tryz.underlying49 hi hz0 hz1 hz2 rfl (by decide) _ 0 [] hown ad n cap (I.flatMap inC) (by rw [flat_len in_len, hn]) hnews (in_one I) (by unfold maxLen; omega) (by omega) hb.size
    rw [List.nil_append, Nat.zero_add] at ho
    obtain ⟨a', c', rfl⟩ := own_formb ho
    subst hn
    exact ⟨_, _, hr, ⟨a', c', rfl, own_zero ho, hb.grown hg5 hb.size (fun j hj => by injection hj with hj; have hj : g = j := hj; omega)⟩⟩
set_option maxRecDepth 100000 in
set_option maxHeartbeats 2000000 in
theorem nclone_any (a : Option Addr) (n cap : Nat) (I : List Int) (w : World) (hn : I.length = n) (h2 : n ≤ 17592186044416) (hI : InA w a I) (ha : a = none → cap = 0) :
    Calls Tryz.prog 122 #[.slice a n cap] w fun e w' => ∃ v, e = .returned v ∧ NClR w I v w' := by
  have en := Lib.run_eql_slice_nil (P := Tryz.prog) w 49 3 a n cap 0 0 Tryz.underlying49
  cases a with
  | none =>
    have hI0 : I = [] := by
      rcases hI with h | ⟨b, o, e, _⟩
      · exact h
      · cases e
    subst hI0
    obtain rfl : n = 0 := hn.symm
    clear hI ha hn
    go_enter Tryz.func122, Tryz.ntmps122
    go_wp2_with fail
    go_ret
    exact ⟨_, rfl, none, 0, rfl, World.ownsRow_nil _ _ _ _, Below.refl _ _⟩
  | some ad =>
    obtain ⟨W1, hW1⟩ : ∃ W1, W1 = w.alloc (.cells #[] 3) := ⟨_, rfl⟩
    have hb1 : Below w.heap.size w W1 := by rw [hW1]; exact boxed _ _
    obtain ⟨v', w5, hr, hcl⟩ := app_ints 49 hn h2 (hI.up hb1) ha hb1 (by rw [hW1]; exact Has.fresh _ _ _) (Nat.le_refl _)
    have HR := Lib.hid hr
    have HC := Lib.hid hcl
    have HW1 := Lib.hid hW1
    clear hI ha hn hb1 hr hcl hW1
    go_enter Tryz.func122, Tryz.ntmps122
    go_wp2_with (first | (rw [← HW1.out]; refine wpList_run rfl (.tmp 5) (.tmp 6) 49 rfl _ _ rfl rfl (S := fun u q => u = v' ∧ q = w5) ⟨v', w5, HR.out, rfl, rfl⟩ ?_; rintro u q ⟨rfl, rfl⟩) | fail)
    go_ret
    exact ⟨_, rfl, HC.out⟩
/-- all six cells of a block written -/
def put6 (w : World) (g : Nat) (b0 b1 b2 b3 b4 b5 : Value) : World :=
  (((((w.setCell ⟨g, 0, none⟩ b0).setCell ⟨g, 1, none⟩ b1).setCell ⟨g, 2, none⟩ b2).setCell ⟨g, 3, none⟩ b3).setCell ⟨g, 4, none⟩ b4).setCell ⟨g, 5, none⟩ b5
theorem put6_has {w : World} {g T : Nat} {a0 a1 a2 a3 a4 a5 : Value} (h : Has w g T #[a0, a1, a2, a3, a4, a5]) (b0 b1 b2 b3 b4 b5 : Value) : Has (put6 w g b0 b1 b2 b3 b4 b5) g T #[b0, b1, b2, b3, b4, b5] :=
  (((((h.put 0 b0).put 1 b1).put 2 b2).put 3 b3).put 4 b4).put 5 b5
theorem put6_grown (w : World) (g : Nat) (b0 b1 b2 b3 b4 b5 : Value) : w.grownBy (put6 w g b0 b1 b2 b3 b4 b5) (some g) :=
  grown_trans (grown_trans (grown_trans (grown_trans (grown_trans (grown_set _ _ _ _) (grown_set _ _ _ _)) (grown_set _ _ _ _)) (grown_set _ _ _ _)) (grown_set _ _ _ _)) (grown_set _ _ _ _)
theorem own_beside {w w' : World} {B T z n g T' : Nat} {v : Value} {xs : List Value} {cs : Array Value} (h : w.ownsRow B T z v n xs) (hh : Has w g T' cs) (hT : T ≠ T') (q : w.grownBy w' (some g)) : w'.ownsRow B T z v n xs := h.kept q (.inr (own_ne h hh hT))
/-- what copied answers -/
def CopR14 (w : World) (d : Dt) (e : Ending) (w' : World) : Prop := ∃ a c, e = .returned (d.val a c) ∧ w'.ownsRow 0 3 1 (.slice a d.ls.length c) d.ls.length (d.ls.flatMap inC) ∧ Below w.heap.size w w'
set_option maxRecDepth 100000 in
set_option maxHeartbeats 2000000 in
theorem copied_any (d : Dt) (a : Option Addr) (c : Nat) (w : World) (h2 : d.ls.length ≤ 17592186044416) (hI : InA w a d.ls) (ha : a = none → c = 0) : Calls Tryz.prog 89 #[d.val a c] w (CopR14 w d) := by
  unfold CopR14
  obtain ⟨ls, al, un, me, fi, la⟩ := d
  simp only [Dt.val] at hI h2 ⊢
  obtain ⟨n, hn⟩ : ∃ n, n = ls.length := ⟨_, rfl⟩
  have HI := Lib.hid hI
  have HA := Lib.hid ha
  have HN := Lib.hid hn
  rw [← hn] at h2 ⊢
  clear hI ha hn
  go_enter Tryz.func89, Tryz.ntmps89
  go_wp2_with fail
  have hx := (Has.fresh w 51 #[.slice a n c, .int .i64 al, .int .i64 un, .int .i64 me, .int .i64 fi, .int .i64 la]).up (boxed _ (.cells #[.slice none 0 0, .int .i64 0, .int .i64 0, .int .i64 0, .int .i64 0, .int .i64 0] 51))
  have hy := Has.fresh (w.alloc (.cells #[.slice a n c, .int .i64 al, .int .i64 un, .int .i64 me, .int .i64 fi, .int .i64 la] 51)) 51 #[.slice none 0 0, .int .i64 0, .int .i64 0, .int .i64 0, .int .i64 0, .int .i64 0]
  rw [show (w.alloc (.cells #[.slice a n c, .int .i64 al, .int .i64 un, .int .i64 me, .int .i64 fi, .int .i64 la] 51)).heap.size = w.heap.size + 1 by simp] at hy
  have hb0 := up2 (boxed w (.cells #[.slice a n c, .int .i64 al, .int .i64 un, .int .i64 me, .int .i64 fi, .int .i64 la] 51)) (boxed _ (.cells #[.slice none 0 0, .int .i64 0, .int .i64 0, .int .i64 0, .int .i64 0, .int .i64 0] 51))
  have hcl := nclone_any a n c ls _ HN.out.symm h2 (HI.out.up hb0) HA.out
  have HX := Lib.hid hx
  have HY := Lib.hid hy
  have HB0 := Lib.hid hb0
  clear hx hy hb0
  refine hcl.mono ?_
  rintro e w3 ⟨v, rfl, a', c', rfl, hown, hb⟩
  rw [← HN.out]
  have hx := HX.out.up hb
  have hy := HY.out.up hb
  have x0 := hx.cell 0
  have x1 := hx.cell 1
  have x2 := hx.cell 2
  have x3 := hx.cell 3
  have x4 := hx.cell 4
  have x5 := hx.cell 5
  have xf := hx.free 0
  have yf0 := hy.free 0
  have yf1 := hy.free 1
  have yf2 := hy.free 2
  have yf3 := hy.free 3
  have yf4 := hy.free 4
  have yf5 := hy.free 5
  have y0 := hy.cell 0
  have y1 := hy.cell 1
  have y2 := hy.cell 2
  have y3 := hy.cell 3
  have y4 := hy.cell 4
  have y5 := hy.cell 5
  have HX3 := Lib.hid hx
  have HY3 := Lib.hid hy
  have HO := Lib.hid hown
  have HB := Lib.hid (up2 HB0.out hb)
  clear hcl hx hy hown hb
  simp at x0 x1 x2 x3 x4 x5 y0 y1 y2 y3 y4 y5
  go_wp2_with fail
  obtain ⟨W4, hW4⟩ : ∃ W4, W4 = w3.setCell ⟨w.heap.size, 0, none⟩ (.slice a' n c') := ⟨_, rfl⟩
  obtain ⟨Wf, hWf⟩ : ∃ Wf, Wf = put6 W4 (w.heap.size + 1) (.slice a' n c') (.int .i64 al) (.int .i64 un) (.int .i64 me) (.int .i64 fi) (.int .i64 la) := ⟨_, rfl⟩
  have g1 : w3.grownBy W4 (some w.heap.size) := by rw [hW4]; exact grown_set _ _ _ _
  have hy4 : Has W4 (w.heap.size + 1) 51 #[.slice none 0 0, .int .i64 0, .int .i64 0, .int .i64 0, .int .i64 0, .int .i64 0] := (g1.block _ HY3.out.lt (by simp)).trans HY3.out
  have g2 : W4.grownBy Wf (some (w.heap.size + 1)) := by rw [hWf]; exact put6_grown _ _ _ _ _ _ _ _
  have hf : Has Wf (w.heap.size + 1) 51 #[.slice a' n c', .int .i64 al, .int .i64 un, .int .i64 me, .int .i64 fi, .int .i64 la] := by rw [hWf]; exact put6_has hy4 _ _ _ _ _ _
  have ho4 := own_beside HO.out HX3.out (by decide) g1
  have hof := own_beside ho4 hy4 (by decide) g2
  have r0 := hf.cell 0
  have r1 := hf.cell 1
  have r2 := hf.cell 2
  have r3 := hf.cell 3
  have r4 := hf.cell 4
  have r5 := hf.cell 5
  have hb4 := HB.out.grown g1 HB.out.size (fun j hj => by injection hj with hj; omega)
  have hbf := hb4.grown g2 hb4.size (fun j hj => by injection hj with hj; omega)
  rw [← hW4]
  unfold put6 at hWf
  rw [← hWf]
  simp at r0 r1 r2 r3 r4 r5
  refine bodyPost_ret (v := .agg #[.slice a' n c', .int .i64 al, .int .i64 un, .int .i64 me, .int .i64 fi, .int .i64 la]) (by simp [results, Tryz.results89, go_sem, r0, r1, r2, r3, r4, r5]) rfl ⟨a', c', rfl, ?_, hbf⟩
  rw [← HN.out] at hof
  exact hof
end Go.Proofs.YtklaonoekmhakaaGreat

namespace Go.Proofs.YtklaonoekmhakaaGreat
open Go.RowKit

/-- an obligation of lines, as an argument -/
theorem dux_val (y : DuX) : (.agg #[.slice y.a y.d.ls.length y.cap, .int .i64 y.d.al, .int .i64 y.d.un, .int .i64 y.d.me, .int .i64 y.d.fi, .int .i64 y.d.la] : Value) = y.d.dt.val y.a y.cap := by
  unfold Dt.val Du.dt
  simp only [List.length_map]
theorem askd_tr (x : Askd) {t : Nat} (ht : t < x.n) : x.C.T.getD t trk0 = ⟨((findV x.S x.l x.d).getD t du0).dt, [], [⟨0, 0, 0, outV x.N x.alo x.n t⟩]⟩ := by
  unfold Askd.C Askd.D
  unfold Askd.n at ht
  simp only
  rw [List.getD_eq_getElem?_getD, List.getElem?_mapIdx, List.getElem?_map, List.getElem?_eq_getElem ht, List.getD_eq_getElem?_getD, List.getElem?_eq_getElem ht]
  rfl
theorem askd_len (x : Askd) : x.C.T.length = x.n := by unfold Askd.C Askd.D Askd.n; simp
theorem askd_alo_am (x : Askd) (F : FineB x.S) (h : findE x.S x.l x.d = 0) : Amounts x.alo := fun t => by
  unfold Askd.alo
  by_cases ht : t < (findV x.S x.l x.d).length
  · rw [List.getD_eq_getElem?_getD, List.getElem?_eq_getElem ht]
    rw [Option.getD_some]
    have := find_ok F h _ (List.getElem_mem ht)
    omega
  · rw [List.getD_eq_getElem?_getD, List.getElem?_eq_none (by omega)]
    show (_ : Int) ≤ 0 ∧ (0 : Int) ≤ _
    omega
theorem askd_N_am (x : Askd) (h : likE x.fix x.m x.b = 0) : Am x.N := by
  have hN : x.N = likS x.fix x.m x.b := by unfold Askd.N likV; rw [if_pos h]
  have hp : pricE (likS x.fix x.m x.b) = 0 := by
    unfold likE at h
    split at h
    · rename_i q; exact absurd h q
    · exact h
  rw [hN]
  exact am64_iff.1 (pricE_zero hp).1
theorem askd_at (x : Askd) {X : List DuX} (h : X.map DuX.d = findV x.S x.l x.d) {j : Nat} {y : DuX} (hy : X[j]? = some y) : (findV x.S x.l x.d).getD j du0 = y.d := by
  rw [← h, List.getD_eq_getElem?_getD, List.getElem?_map, hy]; rfl
/-- each allotment is less than one unit from its exact share -/
structure NearC (S : Ct) : Prop where
  n0 : 0 < S.n
  s0 : 0 < sumN S.alo S.n
  s1 : sumN S.alo S.n ≤ 9223372036854775807
  al : ∀ t, t < S.n → 0 ≤ S.alo t ∧ S.alo t ≤ 9223372036854775807
  near : ∀ t, t < S.n → S.alt t = S.N * S.alo t / sumN S.alo S.n ∨ (S.N * S.alo t % sumN S.alo S.n ≠ 0 ∧ S.alt t - 1 = S.N * S.alo t / sumN S.alo S.n)
theorem near_out {S : Ct} (F : FineC S) {T : Int} (hN : S.N = T) {f : Nat → Int} (hf : ∀ t, t < S.n → S.alo t = f t) (ho : outE T f S.n = 0) (h : ∀ t, t < S.n → S.alt t = outV T f S.n t) : NearC S := by
  have hs : sumN S.alo S.n = sumN f S.n := sumN_eq hf
  obtain ⟨_, W, hm, _⟩ := outE_ok ho
  refine ⟨F.n0, by rw [hs]; exact W.s0, by rw [hs]; exact hm, fun t ht => ⟨(F.trk ht).al0, (F.trk ht).al1⟩, fun t ht => ?_⟩
  rw [hs, hf t ht, h t ht, hN]
  exact near_facts ho ht
theorem askd_n (x : Askd) : x.C.n = x.n := askd_len x
theorem Askd.near {x : Askd} (F : FineB x.S) (h : x.E = 0) : NearC x.C := by
  have hz := Askd.zero h
  refine near_out (Askd.fine F h) (T := x.N) rfl (f := x.alo) (fun t ht => ?_) (by rw [askd_n]; exact hz.out) fun t ht => ?_
  · rw [askd_n] at ht
    unfold Ct.alo Ct.tr
    rw [askd_tr x ht]
    rfl
  · rw [askd_n] at ht ⊢
    unfold Ct.alt Ct.tr
    rw [askd_tr x ht]
    show 0 + outV x.N x.alo x.n t = _
    omega
theorem FineC.near {S : Ct} {day more : Int} (F : FineC S) (q : S.afrE day more = 0) : NearC (S.afrS day more) := by
  have hn := fun t (ht : t < S.n) => ct_afr_alt F q ht
  have h0 := hn 0 F.n0
  have e : (S.afrS day more).n = S.n := h0.2.2.2
  refine near_out (F.afr1 (day := day) (more := more)) (T := S.N + more) h0.2.2.1 (f := S.alo) (fun t ht => (hn t (by rw [← e]; exact ht)).2.1) (by rw [e]; exact (Ct.afr0 q).2.2) fun t ht => ?_
  rw [e] at ht ⊢
  exact (hn t ht).1
end Go.Proofs.YtklaonoekmhakaaGreat

namespace Go.Proofs.YtklaonoekmhakaaGreat
open Go.RowKit

def Mb.cells (x : Mb) : List Value := [.int .i64 x.am, .int .i64 x.ch]
def Mb.val (x : Mb) : Value := .agg #[.int .i64 x.am, .int .i64 x.ch]
theorem mb_len (x : Mb) : x.cells.length = 2 := rfl
abbrev MbA (w : World) (a : Option Addr) (l : List Mb) : Prop := Rws Mb.cells 2 w a l
theorem mb_at {w : World} {a : Option Addr} {l : List Mb} (h : MbA w a l) {j : Nat} {x : Mb} (hx : l[j]? = some x) : ∃ b o, a = some ⟨b, o, none⟩ ∧ w.cell? ⟨b, o + j * 2, none⟩ = some (.int .i64 x.am) ∧ w.cell? ⟨b, o + j * 2 + 1, none⟩ = some (.int .i64 x.ch) := by
  rcases h with z | ⟨b, o, z, hz⟩
  · rw [z] at hx; simp at hx
  · exact ⟨b, o, z, hz j x hx 0 _ rfl, hz j x hx 1 _ rfl⟩
end Go.Proofs.YtklaonoekmhakaaGreat

namespace Go.Proofs.YtklaonoekmhakaaGreat
open Go.RowKit

/-- an operation on a contract -/
structure Op4 where
  k : Int
  du : Int
  dy : Int
  n : Int
def o4C (x : Op4) : List Value := [.int .i64 x.k, .int .i64 x.du, .int .i64 x.dy, .int .i64 x.n]
theorem o4_len (x : Op4) : (o4C x).length = 4 := rfl
abbrev O4A (w : World) (a : Option Addr) (l : List Op4) : Prop := Rws o4C 4 w a l
theorem o4_at {w : World} {a : Option Addr} {l : List Op4} (h : O4A w a l) {j : Nat} {x : Op4} (hx : l[j]? = some x) : ∃ b o, a = some ⟨b, o, none⟩ ∧ w.cell? ⟨b, o + j * 4, none⟩ = some (.int .i64 x.k) ∧ w.cell? ⟨b, o + j * 4 + 1, none⟩ = some (.int .i64 x.du) ∧ w.cell? ⟨b, o + j * 4 + 2, none⟩ = some (.int .i64 x.dy) ∧ w.cell? ⟨b, o + j * 4 + 3, none⟩ = some (.int .i64 x.n) := by
  rcases h with z | ⟨b, o, z, hz⟩
  · rw [z] at hx; simp at hx
  · exact ⟨b, o, z, hz j x hx 0 _ rfl, hz j x hx 1 _ rfl, hz j x hx 2 _ rfl, hz j x hx 3 _ rfl⟩
/-- terms of a contract -/
structure Tm where
  I : List Im
  l : List Ln
  m : List Mb
  b : Int
  d : Int
/-- where their lists lie -/
structure TmP where
  ia : Option Addr
  ic : Nat
  la : Option Addr
  lc : Nat
  ma : Option Addr
  mc : Nat
def Tm.cells (x : Tm) (p : TmP) : List Value := [.slice p.ia x.I.length p.ic, .slice p.la x.l.length p.lc, .slice p.ma x.m.length p.mc, .int .i64 x.b, .int .i64 x.d]
def Tm.val (x : Tm) (p : TmP) : Value := .agg #[.slice p.ia x.I.length p.ic, .slice p.la x.l.length p.lc, .slice p.ma x.m.length p.mc, .int .i64 x.b, .int .i64 x.d]
structure TmA (w : World) (p : TmP) (x : Tm) : Prop where
  I : ItA w p.ia x.I
  ic : p.ia = none → p.ic = 0
  l : LnA w p.la x.l
  m : MbA w p.ma x.m
theorem TmA.up {w w' : World} {p : TmP} {x : Tm} (h : TmA w p x) (q : Below w.heap.size w w') : TmA w' p x := ⟨h.I.up q, h.ic, h.l.up q, h.m.up q⟩
end Go.Proofs.YtklaonoekmhakaaGreat
