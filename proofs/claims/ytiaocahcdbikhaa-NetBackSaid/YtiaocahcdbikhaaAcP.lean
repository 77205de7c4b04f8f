/- refuse; slices.Clone of postings. -/
import Derived.Test.YtiaocahcdbikhaaAcO
namespace Go.Proofs.Ytiaocahcdbikhaa
open Go.RowKit

section
variable {w w' : World} {p m : Nat} {S : Ld} {O : Nat → Prop}
def Ams (ps : List Po) : Prop := ∀ x ∈ ps, Am x.a ∧ Am x.c ∧ Am x.m
theorem flat_get9 {ps : List Po} {j : Nat} {u : Value} (h : (flat ps)[j]? = some u) : ∃ i x r, j = i * 3 + r ∧ ps[i]? = some x ∧ x.cells[r]? = some u ∧ r < 3 := by
  induction ps generalizing j with
  | nil => simp [flat] at h
  | cons x l ih =>
    have e : flat (x :: l) = x.cells ++ flat l := by simp [flat]
    have hl : x.cells.length = 3 := rfl
    rw [e] at h
    by_cases hj : j < 3
    · rw [List.getElem?_append_left (by omega)] at h
      exact ⟨0, x, j, by omega, rfl, h, hj⟩
    · rw [List.getElem?_append_right (by omega), hl] at h
      obtain ⟨i, y, r, h1, h2, h3, h4⟩ := ih h
      exact ⟨i + 1, y, r, by omega, h2, h3, h4⟩
theorem flat_len9 (ps : List Po) : (flat ps).length = ps.length * 3 := by
  induction ps with
  | nil => rfl
  | cons x l ih =>
    have e : flat (x :: l) = x.cells ++ flat l := by simp [flat]
    rw [e, List.length_append, ih]
    simp [Po.cells]; omega
theorem flat_cell {ps : List Po} {i : Nat} {x : Po} (h : ps[i]? = some x) : (flat ps)[i * 3]? = some (.int .i64 x.a) ∧ (flat ps)[i * 3 + 1]? = some (.int .i64 x.c) ∧ (flat ps)[i * 3 + 2]? = some (.int .i64 x.m) := by
  induction ps generalizing i with
  | nil => simp at h
  | cons y l ih =>
    have e : flat (y :: l) = y.cells ++ flat l := by simp [flat]
    have hl : y.cells.length = 3 := rfl
    cases i with
    | zero => simp at h; subst h; rw [e]; exact ⟨rfl, rfl, rfl⟩
    | succ i =>
      obtain ⟨h1, h2, h3⟩ := ih (by simpa using h)
      rw [e, List.getElem?_append_right (by omega), List.getElem?_append_right (by omega), List.getElem?_append_right (by omega), hl]
      exact ⟨by rw [← h1]; congr 1; omega, by rw [← h2]; congr 1; omega, by rw [← h3]; congr 1; omega⟩
/-- a row of postings of one's own reads as postings -/
theorem own_psa {base n : Nat} {v : Value} {ps : List Po} (h : w.ownsRow base 35 3 v n (flat ps)) : ∃ a c, v = .slice a n c ∧ PsA w a ps ∧ ps.length = n ∧ (a = none → n = 0 ∧ c = 0) := by
  have hl : ps.length = n := by have := h.1; rw [flat_len9] at this; omega
  rcases h.2 with ⟨rfl, h2⟩ | ⟨g, cap, cur, rfl, _, hh, _⟩
  · subst h2
    exact ⟨none, 0, rfl, .inl (List.eq_nil_of_length_eq_zero hl), hl, fun _ => ⟨rfl, rfl⟩⟩
  · refine ⟨_, cap, rfl, .inr ⟨g, 0, rfl, fun i x hx => ?_⟩, hl, fun q => by cases q⟩
    have hi : i < ps.length := (List.getElem?_eq_some_iff.1 hx).1
    obtain ⟨f1, f2, f3⟩ := flat_cell hx
    have k1 := World.ownsRow.cellAt (w := w) h (i * 3) (by omega)
    have k2 := World.ownsRow.cellAt (w := w) h (i * 3 + 1) (by omega)
    have k3 := World.ownsRow.cellAt (w := w) h (i * 3 + 2) (by omega)
    rw [f1] at k1; rw [f2] at k2; rw [f3] at k3
    rw [Nat.zero_add]
    exact ⟨k1, k2, k3⟩
theorem infoPost : (Try.prog.info? 35).map (fun i => (i.zero, i.size, i.bytes)) = some (some (.agg #[.int .i64 0, .int .i64 0, .int .i64 0]), 3, 24) := by kernel_rfl
end
end Go.Proofs.Ytiaocahcdbikhaa
