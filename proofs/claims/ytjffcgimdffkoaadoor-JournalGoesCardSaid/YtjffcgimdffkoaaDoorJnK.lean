/- A row of strings that grows, wherever it begins in its block. -/
import Derived.Test.YtjffcgimdffkoaaDoorJnJ
import Derived.Lib.AppendZeros
namespace Go.Proofs.YtjffcgimdffkoaaDoor
open Go.RowKit

/-- v is a slice of the strings xs, in block R (or nil) -/
def Rw (w : World) (R : Nat) (v : Value) (xs : List ByteArray) : Prop :=
  (v = .slice none 0 0 ∧ xs = []) ∨ ∃ (o c : Nat) (cs : Array Value), v = .slice (some ⟨R, o, none⟩) xs.length c ∧ Has w R 9 cs ∧ o + c ≤ cs.size ∧ xs.length ≤ c ∧ c ≤ maxLen ∧ ∀ (j : Nat) (x : ByteArray), xs[j]? = some x → cs[o + j]? = some (.string x)
theorem Rw.of {w w' : World} {R : Nat} {v : Value} {xs : List ByteArray} (h : Rw w R v xs) (k : ∀ cs, Has w R 9 cs → Has w' R 9 cs) : Rw w' R v xs := by
  rcases h with h | ⟨o, c, cs, h1, h2, h3⟩
  · exact .inl h
  · exact .inr ⟨o, c, cs, h1, k cs h2, h3⟩
theorem Rw.up {w w' : World} {R : Nat} {v : Value} {xs : List ByteArray} (h : Rw w R v xs) (k : Below w.heap.size w w') : Rw w' R v xs := h.of fun _ q => q.up k
theorem addr_plus (b off : Nat) (k : Nat) : (⟨b, off, none⟩ : Addr).add k = ⟨b, off + k, none⟩ := by
  unfold Addr.add
  split
  · subst k; rfl
  · rfl
theorem infoStr : (Tryd.prog.info? 9).map (fun i => (i.zero, i.size, i.bytes)) = some (some (.string ⟨#[]⟩), 1, 16) := zeroS

theorem run_room (w : World) (ty : TypeId) (i : TypeInfo) (hi : Tryd.prog.info? 9 = some i) (h1 : i.size = 1) (g o n c : Nat) (cur : Array Value) (hg : w.heap[g]? = some (.cells cur 9 (0, 0)))
    (y : Nat) (x : ByteArray) (hy : w.cell? ⟨y, 0, none⟩ = some (.string x)) (hroom : n + 1 ≤ c) (hfit : o + c ≤ cur.size) :
    (Builtin.append_ #[35, 35] ty #[.slice (some ⟨g, o, none⟩) n c, .slice (some ⟨y, 0, none⟩) 1 1]).run Tryd.prog w =
      .ok (.slice (some ⟨g, o, none⟩) (n + 1) c) (w.setRow g (cur.toList.take (o + n) ++ [Value.string x] ++ cur.toList.drop (o + n + 1)).toArray) := by
  have hnews : ∀ (j : Nat) (u : Value), [Value.string x][j]? = some u → w.cell? ((⟨y, 0, none⟩ : Addr).add j) = some u := fun j u e => by
    cases j with
    | zero => simp at e; subst e; exact hy
    | succ j => simp at e
  have hf := run_firstCells_some (P := Tryd.prog) w i.size 1 ⟨y, 0, none⟩ 1 1 [.string x] (by simp [h1]) hnews
  have hst := run_storeCells_at Tryd.prog g (o + n) 9 [.string x] 0 cur w hg (by simp; omega) (by simp [Value.oneCell'])
  simp only [Nat.add_zero] at hst
  simp [Builtin.append_, run_underlying Tryd.underlying35, sizeOf, typeInfo, hi, h1, Builtin.lenOf, hroom, addr_plus] at hf ⊢
  simp [hf, hst]

theorem Rw.app {w : World} {R : Nat} {v : Value} {xs : List ByteArray} (ty : TypeId) (h : Rw w R v xs) (hn : xs.length ≤ 100000) (y : Nat) (x : ByteArray) (hy : w.cell? ⟨y, 0, none⟩ = some (.string x)) :
    ∃ R' v' w', (Builtin.append_ #[35, 35] ty #[v, .slice (some ⟨y, 0, none⟩) 1 1]).run Tryd.prog w = .ok v' w' ∧ (R' = R ∨ w.heap.size ≤ R') ∧ R' < w'.heap.size ∧ Rw w' R' v' (xs ++ [x]) ∧ Turn (fun k => k = R) w w' := by
  obtain ⟨i, hi, hz0, hz1, hz2⟩ := info_parts infoStr
  have hnews : ∀ (j : Nat) (u : Value), [Value.string x][j]? = some u → w.cell? ((⟨y, 0, none⟩ : Addr).add j) = some u := fun j u e => by
    cases j with
    | zero => simp at e; subst e; exact hy
    | succ j => simp at e
  rcases h with ⟨rfl, rfl⟩ | ⟨o, c, cs, rfl, hR, hfit, hc, hcm, hx⟩
  · have hr := run_append_nil (P := Tryd.prog) w 35 ty 9 i _ Tryd.underlying35 hi hz0 ⟨y, 0, none⟩ 1 1 [.string x] (by simp [hz1]) hnews (by omega) (by omega) (by rw [hz2]; omega)
    refine ⟨w.heap.size, _, _, hr, .inr (Nat.le_refl _), by simp, .inr ⟨0, _, _, rfl, Has.fresh w.drew _ _, ?_, ?_, ?_, ?_⟩, ?_⟩
    · have := grownCap_ge w 1 0 9
      simp [size_zeroCells, Value.cells]; omega
    · exact grownCap_ge w 1 0 9
    · exact grownCap_le_maxLen w 1 0 9 (by unfold maxLen; omega)
    · intro j z e
      cases j with
      | zero =>
        simp at e; subst e
        rw [Nat.add_zero, Array.getElem?_append_left (by simp)]
        rfl
      | succ j => simp at e
    · exact Turn.of _ ⟨rfl, rfl, rfl, by simp, fun k hk => heap_alloc_old w.drew _ hk⟩
  · by_cases hroom : xs.length + 1 ≤ c
    · have hr := run_room w ty i hi hz1 R o xs.length c cs hR y x hy hroom hfit
      have hlt := hR.lt
      refine ⟨R, _, _, hr, .inl rfl, by simp [World.setRow]; exact hlt, .inr ⟨o, c, _, by simp, setRow_heap w R cs _ 9 _ hR, ?_, by simpa using hroom, hcm, ?_⟩, ⟨rfl, rfl, rfl, by simp, fun k _ q => setRow_other w R k _ q⟩⟩
      · simp; omega
      · intro j z e
        rw [List.getElem?_toArray]
        have hL : o + xs.length + [Value.string x].length ≤ cs.toList.length := by simp; omega
        have := over_at cs.toList [Value.string x] (o + xs.length) (o + j) (by simpa using hL)
        simp only [List.length_singleton] at this
        rw [this]
        by_cases q : j < xs.length
        · rw [if_pos (by omega), Array.getElem?_toList]
          rw [List.getElem?_append_left q] at e
          exact hx j z e
        · have hj : j = xs.length := by
            by_cases r : j < (xs ++ [x]).length
            · simp at r; omega
            · rw [List.getElem?_eq_none (by omega)] at e; cases e
          subst hj
          rw [if_neg (by omega), if_pos (by omega), show o + xs.length - (o + xs.length) = 0 by omega]
          rw [List.getElem?_append_right (Nat.le_refl _), Nat.sub_self] at e
          simp at e
          rw [e]
          rfl
    · have holds : ∀ (j : Nat) (u : Value), (xs.map Value.string)[j]? = some u → w.cell? ((⟨R, o, none⟩ : Addr).add j) = some u := fun j u e => by
        rw [addr_plus, hR.cell]
        rw [List.getElem?_map] at e
        cases hq : xs[j]? with
        | none => rw [hq] at e; cases e
        | some z => rw [hq] at e; cases e; exact hx j z hq
      have hr := run_append_grow (P := Tryd.prog) w 35 ty 9 i _ Tryd.underlying35 hi hz0 ⟨R, o, none⟩ xs.length c (xs.map Value.string) (by simp [hz1]) holds ⟨y, 0, none⟩ 1 1 [.string x] (by simp [hz1]) hnews (by omega) (by omega)
        (growslice_fits (by omega) (by rw [hz2]; omega))
      have hg := grownCap_ge w (xs.length + 1) c 9
      refine ⟨w.heap.size, _, _, hr, .inr (Nat.le_refl _), by simp, .inr ⟨0, grownCap w (xs.length + 1) c 9, _, by simp, Has.fresh w.drew _ _, ?_, ?_, ?_, ?_⟩, ?_⟩
      · simp [size_zeroCells, Value.cells]; omega
      · simp; omega
      · exact grownCap_le_maxLen w _ c 9 (by unfold maxLen; omega)
      · intro j z e
        rw [Nat.zero_add, Array.getElem?_append_left (by
          have hj : j < (xs ++ [x]).length := by
            by_cases r : j < (xs ++ [x]).length
            · exact r
            · rw [List.getElem?_eq_none (by omega)] at e; cases e
          simpa using hj)]
        rw [show (xs.map Value.string).toArray ++ [Value.string x].toArray = ((xs ++ [x]).map Value.string).toArray by simp, List.getElem?_toArray, List.getElem?_map, e]
        rfl
      · exact Turn.of _ ⟨rfl, rfl, rfl, by simp, fun k hk => heap_alloc_old w.drew _ hk⟩
end Go.Proofs.YtjffcgimdffkoaaDoor
