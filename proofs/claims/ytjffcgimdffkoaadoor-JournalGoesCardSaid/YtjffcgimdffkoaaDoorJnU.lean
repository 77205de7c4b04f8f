/- A journal opened. -/
import Derived.Test.YtjffcgimdffkoaaDoorJnT
namespace Go.Proofs.YtjffcgimdffkoaaDoor
open Go.RowKit

/-- the first of a row, and the others -/
theorem Rw.cut {w : World} {R : Nat} {v : Value} {x : ByteArray} {xs : List ByteArray} (h : Rw w R v (x :: xs)) :
    ∃ o c o1 c1, v = .slice (some ⟨R, o, none⟩) (xs.length + 1) c ∧ xs.length + 1 ≤ c ∧ c ≤ maxLen ∧ w.cell? ⟨R, o, none⟩ = some (.string x) ∧ Rw w R (.slice (some ⟨R, o1, none⟩) xs.length c1) xs ∧
      ∀ W : World, (Instr.slice 35 (.slice (some ⟨R, o, none⟩) (xs.length + 1) c) (some (.int .i64 1)) none none).run Tryd.prog W = .ok (.slice (some ⟨R, o1, none⟩) xs.length c1) W := by
  rcases h with ⟨_, h⟩ | ⟨o, c, cs, rfl, hR, hf, hc, hm, hx⟩
  · cases h
  · have hc' : xs.length + 1 ≤ c := by simpa using hc
    have h1 : (1 : Int) ≤ (xs.length : Int) + 1 := by omega
    have hx0 : w.cell? ⟨R, o, none⟩ = some (.string x) := by rw [hR.cell]; exact hx 0 x rfl
    by_cases q : c = 1
    · subst q
      have hxs : xs = [] := List.eq_nil_of_length_eq_zero (by omega)
      subst hxs
      refine ⟨o, 1, o, 0, rfl, hc', hm, hx0, .inr ⟨o, 0, cs, rfl, hR, by omega, by simp, by unfold maxLen; omega, fun j y e => by simp at e⟩, fun W => ?_⟩
      simp [Instr.slice, Instr.sliceBounds, Instr.sliceBound, asIntOf, go_sem]
    · refine ⟨o, c, o + 1, c - 1, rfl, hc', hm, hx0, .inr ⟨o + 1, c - 1, cs, rfl, hR, by omega, by omega, by unfold maxLen at *; omega, fun j y e => by rw [show o + 1 + j = o + (j + 1) by omega]; exact hx (j + 1) y e⟩, fun W => ?_⟩
      simp [Instr.slice, Instr.sliceBounds, Instr.sliceBound, asIntOf, go_sem, q, h1, addr_plus]

theorem open_nil (w : World) : Calls Tryd.prog 8 #[.pointer none] w fun e w' => e = .returned (.tuple #[.pointer none, .int .i64 1]) ∧ w = w' := by
  go_enter Tryd.func8, Tryd.ntmps8
  go_wp2
  go_ret2
  exact ⟨rfl, rfl⟩

/-- behind Open: the answer; the journal, if there is one -/
def OpnR (w : World) (p b : Nat) (S : SS × Option JS × Int) (m : Int) (e : Ending) (w' : World) : Prop :=
  But p b w w' ∧ match S.2.1 with
  | none => S.2.2 ≠ 0 ∧ e = .returned (.tuple #[.pointer none, .int .i64 S.2.2]) ∧ At w' p b S.1 m
  | some j => S.2.2 = 0 ∧ ∃ J R v, w.heap.size ≤ J ∧ w.heap.size ≤ R ∧ e = .returned (.tuple #[.pointer (some ⟨J, 0, none⟩), .int .i64 0]) ∧ Jat w' J R p b v S.1 j m ∧ Ok S.1.n j
theorem Turn.but {J p b : Nat} {w w1 w' : World} (h : Turn (fun k => k = J ∨ k = p ∨ k = b) w1 w') (h0 : Below w.heap.size w w1) (q : w.heap.size ≤ J) : But p b w w' :=
  ⟨h.os.trans h0.os, h.tape.trans h0.tape, h.output.trans h0.output, Nat.le_trans h0.size h.size, fun k hk q1 q2 => (h.block k (Nat.lt_of_lt_of_le hk h0.size) (by omega)).trans (h0.block k hk)⟩
end Go.Proofs.YtjffcgimdffkoaaDoor
