/- Operations and fuses among the arguments: what is read of them. -/
import Derived.Deep.Slices
import Derived.Deep.Fields
import Derived.Test.YtjffcgimdffkoaaGreatDoorJnSz
import Derived.Test.YtjffcgimdffkoaaGreatDoorRcO
namespace Go.Proofs.YtjffcgimdffkoaaGreatDoor
open Go.ChangeShapes Go.WideShapes Go.ChangeAt Go.RowKit Go.Deep

set_option maxRecDepth 100000 in
theorem cJ3 : Tryz.prog.cellsOf 3 = 1 := by kernel_rfl
set_option maxRecDepth 100000 in
theorem cJ9 : Tryz.prog.cellsOf 9 = 1 := by kernel_rfl
set_option maxRecDepth 100000 in
theorem cJop : Tryz.prog.cellsOf 39 = 4 := by kernel_rfl
section
variable {H : Type} {enc : TypeId × Value → H} {W : World} {base : Nat} {spare : Nat → Bool} {held : Bool}
set_option maxRecDepth 100000 in
theorem opj_read {fuel : Nat} {cs : List Value} {y : DataW H × List MemPlace} (h : DataW.trod enc Tryz.prog W base spare held fuel 39 cs = some y) :
    ∃ o : OpJ, cs = o.cells.toList ∧ o.n ≤ 9223372036854775807 ∧ o.x.data.toList.length ∈ y.1.weights Tryz.prog 39 := by
  obtain ⟨ys, n, _, hy, hlen, hyl, hf⟩ := DataW.trod_struct Tryz.underlying39 h
  have h4 : cs.length = 4 := hlen.trans cJop
  match cs, h4 with
  | [c0, c1, c2, c3], _ =>
    match ys, hyl with
    | [y0, y1, y2, y3], _ =>
      have g0 : DataW.trod enc Tryz.prog W base spare held n 3 [c0] = some y0 := by simpa [cJ3] using hf 0 _ rfl
      have g1 : DataW.trod enc Tryz.prog W base spare held n 3 [c1] = some y1 := by simpa [cJ3] using hf 1 _ rfl
      have g2 : DataW.trod enc Tryz.prog W base spare held n 3 [c2] = some y2 := by simpa [cJ3] using hf 2 _ rfl
      have g3 : DataW.trod enc Tryz.prog W base spare held n 9 [c3] = some y3 := by simpa [cJ9] using hf 3 _ rfl
      obtain ⟨d, e0, _, _⟩ := DataW.trod_int Tryz.underlying3 g0
      obtain ⟨k, e1, _, wk⟩ := DataW.trod_int Tryz.underlying3 g1
      obtain ⟨t, e2, _, _⟩ := DataW.trod_int Tryz.underlying3 g2
      obtain ⟨x, e3, q3, _⟩ := DataW.trod_string Tryz.underlying9 g3
      simp at e0 e1 e2 e3
      subst e0 e1 e2 e3
      refine ⟨⟨d, k, t, x⟩, rfl, (bounds_i64 wk).2, ?_⟩
      rw [hy]
      simp only [DataW.weights, Tryz.underlying39]
      have q := congrArg Prod.fst q3
      refine DataW.weights_mem_each (j := 3) (t := 9) (d := y3.1) rfl rfl _ ?_
      rw [q]
      simp [DataW.weights]
set_option maxRecDepth 100000 in
/-- a list of operations that came in -/
theorem opsj_read {fuel : Nat} {a : Option Addr} {len cap : Nat} {y : DataW H × List MemPlace} (h : DataW.trod enc Tryz.prog W base spare held fuel 22 [.slice a len cap] = some y) (hw : ∀ n ∈ y.1.weights Tryz.prog 22, n ≤ 140737488355328) :
    ∃ L : Nat → OpJ, OpsJ W a len L ∧ len ≤ 9223372036854775807 := by
  rcases open_slice Tryz.underlying22 h with ⟨hcs, _⟩ | ⟨x, l, c, m, n, D, Pl, hcs, _, hl, hm, hmm, hx, hi⟩
  · simp at hcs
    obtain ⟨rfl, rfl, rfl⟩ := hcs
    exact ⟨fun _ => ⟨0, 0, 0, ByteArray.empty⟩, fun i hi => absurd hi (by omega), by omega⟩
  · simp at hcs
    obtain ⟨rfl, rfl, rfl⟩ := hcs
    have hlm : len ≤ m := by rw [hmm]; split <;> omega
    have key : ∀ i, i < len → ∃ o : OpJ, (∃ b off, some x = some ⟨b, off, none⟩ ∧ LayJ b (off + i * 4) o W) ∧ o.n ≤ 9223372036854775807 ∧ o.x.size ≤ 140737488355328 := by
      intro i hil
      obtain ⟨cs, hc, ht⟩ := hi i (by omega)
      obtain ⟨o, rfl, hn, hwt⟩ := opj_read ht
      rw [cJop] at hc
      obtain ⟨_, _, hat⟩ := World.cells?_some hc
      have hsz : o.x.size ≤ 140737488355328 := by
        have h1 := weights_all (l := (List.range len).map D) (List.mem_map.mpr ⟨i, List.mem_range.mpr hil, rfl⟩) hwt
        have := hw o.x.data.toList.length (by
          rw [hx]
          simp only [DataW.weights, Tryz.underlying22]
          exact List.mem_cons_of_mem _ (List.mem_append_left _ h1))
        rwa [list_size] at this
      refine ⟨o, ?_, hn, hsz⟩
      obtain ⟨b, off, sp⟩ := x
      have hs : sp = none := by
        obtain ⟨cs0, hc0, ht0⟩ := hi 0 (by omega)
        rw [cJop] at hc0
        obtain ⟨_, _, hat0⟩ := World.cells?_some hc0
        obtain ⟨o0, rfl, _⟩ := opj_read ht0
        have q0 := hat0 0 (by omega)
        simp [Addr.add, OpJ.cells] at q0
        cases sp with
        | none => rfl
        | some v =>
          exfalso
          unfold World.cell? at q0
          split at q0 <;> simp at q0
      subst hs
      refine ⟨b, off, rfl, ?_⟩
      have hj : ∀ j, j < 4 → W.cell? ⟨b, off + i * 4 + j, none⟩ = o.cells.toList[j]? := fun j hj => by
        have := hat j hj
        rwa [addr_at, addr_at] at this
      exact ⟨hj 0 (by omega), hj 1 (by omega), hj 2 (by omega), hj 3 (by omega)⟩
    refine ⟨fun i => if hil : i < len then (key i hil).choose else ⟨0, 0, 0, ByteArray.empty⟩, fun i hil => ?_, by unfold maxLen at hm; omega⟩
    obtain ⟨⟨b, off, e, hL⟩, hn, hz⟩ := (key i hil).choose_spec
    simp only [dif_pos hil]
    exact ⟨b, off, e, hL, hn, hz⟩
set_option maxRecDepth 100000 in
theorem opsj_sized {ts : List TypeId} {ds : List (DataW H)} (h : (DataW.weightsEach Tryz.prog ts ds).all (· ≤ reachBytes) = true) {j : Nat} (ht : ts[j]? = some 22) {d : DataW H} (hd : ds[j]? = some d) : ∀ n ∈ d.weights Tryz.prog 22, n ≤ 140737488355328 := fun n hn => by
  have hr := reachBytes_lt
  have := List.all_eq_true.1 h _ (DataW.weights_mem_each ht hd _ hn)
  simp at this
  omega
set_option maxRecDepth 100000 in
theorem okWide_array' {t e : TypeId} {n : Nat} {w : World} {r : Reach} {base : Nat} {v : Value} (ht : Tryz.prog.underlying t = some (.array n e)) (h : Value.okWide Tryz.prog w r base t v) : ∃ cs, v = .agg cs ∧ cs.size = Tryz.prog.cellsOf t := by
  simp only [Value.okWide, ht] at h
  obtain ⟨cs, h1, h2, _⟩ := h
  exact ⟨cs, h1, h2⟩
end
end Go.Proofs.YtjffcgimdffkoaaGreatDoor
