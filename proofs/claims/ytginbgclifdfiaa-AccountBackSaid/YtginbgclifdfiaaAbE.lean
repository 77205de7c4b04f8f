/- An operation ahead of others; what AccountBack leans on. -/
import Derived.Test.YtginbgclifdfiaaAbD
namespace Go.Proofs.Ytginbgclifdfiaa
open Go.RowKit

def Oq.list (x : Oq) : List Value := [.int .i64 x.d, .int .i64 x.q, .int .i64 x.i, x.v]
def flatO (l : List Oq) : List Value := l.flatMap Oq.list
theorem flatO_len (l : List Oq) : (flatO l).length = l.length * 4 := by
  induction l with
  | nil => rfl
  | cons x l ih =>
    have e : flatO (x :: l) = x.list ++ flatO l := by simp [flatO]
    rw [e, List.length_append, ih]
    simp [Oq.list]; omega
theorem flatO_get {l : List Oq} {j : Nat} {u : Value} (h : (flatO l)[j]? = some u) : ∃ i x r, j = i * 4 + r ∧ l[i]? = some x ∧ x.list[r]? = some u ∧ r < 4 := by
  induction l generalizing j with
  | nil => simp [flatO] at h
  | cons x l ih =>
    have e : flatO (x :: l) = x.list ++ flatO l := by simp [flatO]
    have hl : x.list.length = 4 := rfl
    rw [e] at h
    by_cases hj : j < 4
    · rw [List.getElem?_append_left (by omega)] at h
      exact ⟨0, x, j, by omega, rfl, h, hj⟩
    · rw [List.getElem?_append_right (by omega), hl] at h
      obtain ⟨i, y, r, h1, h2, h3, h4⟩ := ih h
      exact ⟨i + 1, y, r, by omega, h2, h3, h4⟩
theorem flatO_cell {l : List Oq} {i : Nat} {x : Oq} (h : l[i]? = some x) : (flatO l)[i * 4]? = some (.int .i64 x.d) ∧ (flatO l)[i * 4 + 1]? = some (.int .i64 x.q) ∧ (flatO l)[i * 4 + 2]? = some (.int .i64 x.i) ∧ (flatO l)[i * 4 + 3]? = some x.v := by
  induction l generalizing i with
  | nil => simp at h
  | cons y l ih =>
    have e : flatO (y :: l) = y.list ++ flatO l := by simp [flatO]
    have hl : y.list.length = 4 := rfl
    cases i with
    | zero => simp at h; subst h; rw [e]; exact ⟨rfl, rfl, rfl, rfl⟩
    | succ i =>
      obtain ⟨h1, h2, h3, h4⟩ := ih (by simpa using h)
      rw [e, List.getElem?_append_right (by omega), List.getElem?_append_right (by omega), List.getElem?_append_right (by omega), List.getElem?_append_right (by omega), hl]
      exact ⟨by rw [← h1]; congr 1; omega, by rw [← h2]; congr 1; omega, by rw [← h3]; congr 1; omega, by rw [← h4]; congr 1; omega⟩
theorem infoOp9 : (Try.prog.info? 34).map (fun i => (i.zero, i.size, i.bytes)) = some (some (.agg #[.int .i64 0, .int .i64 0, .int .i64 0, .slice none 0 0]), 4, 48) := by kernel_rfl
section
variable {w w' : World}
/-- an operation, and others behind it -/
theorem app_ops (ty : TypeId) (x : Oq) (a : Option Addr) (cap : Nat) (l : List Oq) (hx : OpA w x) (h : OpsA w a l) (hm : l.length ≤ 2932031007400) (hc : a = none → cap = 0) :
    ∃ a' c' w5, (Builtin.append_ #[22, 22] ty #[.slice (some ⟨w.heap.size, 0, none⟩) 1 1, .slice a l.length cap]).run Try.prog (w.alloc (.cells x.cells 34)) = .ok (.slice a' (l.length + 1) c') w5 ∧ OpsA w5 a' (x :: l) ∧ Below w.heap.size w w5 := by
  obtain ⟨i, hi, hz0, hz1, hz2⟩ := info_parts infoOp9
  have hb1 := boxed w (.cells x.cells 34)
  have hX := Has.fresh w 34 x.cells
  have hown : (w.alloc (.cells x.cells 34)).ownsRow w.heap.size 34 4 (.slice (some ⟨w.heap.size, 0, none⟩) 1 1) 1 x.list := ⟨rfl, .inr ⟨w.heap.size, 1, x.cells, rfl, Nat.le_refl _, hX, Nat.le_refl _, by unfold maxLen; omega, rfl, rfl⟩⟩
  have h1 := h.up hb1
  have fin : ∀ (v' : Value) (w5 : World), w5.ownsRow w.heap.size 34 4 v' (1 + l.length) (x.list ++ flatO l) → Below w.heap.size w w5 → ∃ a' c', v' = .slice a' (l.length + 1) c' ∧ OpsA w5 a' (x :: l) := fun v' w5 ho hb => by
    rcases ho.2 with ⟨_, h0⟩ | ⟨g, c, cur, e, _⟩
    · omega
    · refine ⟨_, c, by rw [e, Nat.add_comm], fun y hy => ?_, .inr ⟨g, 0, rfl, fun k y hy => ?_⟩⟩
      · rcases List.mem_cons.1 hy with rfl | hy
        · exact hx.up hb
        · exact (h.1 y hy).up hb
      · subst e
        have hk := (List.getElem?_eq_some_iff.1 hy).1
        rw [List.length_cons] at hk
        have ef : x.list ++ flatO l = flatO (x :: l) := by simp [flatO]
        rw [ef] at ho
        obtain ⟨f0, f1, f2, f3⟩ := flatO_cell hy
        have c0 := World.ownsRow.cellAt (w := w5) ho (k * 4) (by omega)
        have c1 := World.ownsRow.cellAt (w := w5) ho (k * 4 + 1) (by omega)
        have c2 := World.ownsRow.cellAt (w := w5) ho (k * 4 + 2) (by omega)
        have c3 := World.ownsRow.cellAt (w := w5) ho (k * 4 + 3) (by omega)
        rw [f0] at c0; rw [f1] at c1; rw [f2] at c2; rw [f3] at c3
        rw [Nat.zero_add]
        exact ⟨c0, c1, c2, c3⟩
  cases a with
  | none =>
    have hl : l = [] := by
      rcases h.2 with h | ⟨b, o, h, _⟩
      · exact h
      · cases h
    subst hl
    have hc := hc rfl
    subst hc
    have hr := run_append_owned_none (w.alloc (.cells x.cells 34)) w.heap.size 22 ty 34 i 4 Try.underlying22 hi _ 1 x.list hown
    obtain ⟨a', c', e, ho⟩ := fin _ _ (by simpa [flatO] using hown) hb1
    exact ⟨a', c', _, by rw [← e]; exact hr, ho, hb1⟩
  | some ad =>
    obtain ⟨v', w5, hr, ho, hg, _⟩ := run_append_own (P := Try.prog) (w.alloc (.cells x.cells 34)) w.heap.size 22 ty 34 i _ 4 48 Try.underlying22 hi hz0 hz1 hz2 rfl (by decide) _ 1 x.list hown ad l.length cap (flatO l) (by rw [flatO_len])
      (fun j u hj => by
        obtain ⟨i, y, r, rfl, hy, hu, hr⟩ := flatO_get hj
        rcases h1.2 with h0 | ⟨b, o, e, h0⟩
        · rw [h0] at hy; simp at hy
        · obtain rfl : ad = ⟨b, o, none⟩ := Option.some.inj e
          rw [addr_off]
          have := h0 i y hy
          match r, hr, hu with
          | 0, _, hu => simp [Oq.list] at hu; subst hu; exact this.1
          | 1, _, hu => simp [Oq.list] at hu; subst hu; exact this.2.1
          | 2, _, hu => simp [Oq.list] at hu; subst hu; exact this.2.2.1
          | 3, _, hu => simp [Oq.list] at hu; subst hu; exact this.2.2.2)
      (fun u hu => by
        obtain ⟨j, hj⟩ := List.getElem?_of_mem hu
        obtain ⟨i, y, r, rfl, hy, hu, hr⟩ := flatO_get hj
        match r, hr, hu with
        | 0, _, hu => simp [Oq.list] at hu; subst hu; rfl
        | 1, _, hu => simp [Oq.list] at hu; subst hu; rfl
        | 2, _, hu => simp [Oq.list] at hu; subst hu; rfl
        | 3, _, hu => simp [Oq.list, Oq.v] at hu; subst hu; rfl) (by unfold maxLen; omega) (by omega) (by simp)
    have hb5 : Below w.heap.size w w5 := hb1.grown hg (by simp) (fun j hj => by simp [Value.ownBlock] at hj; omega)
    obtain ⟨a', c', rfl, ho'⟩ := fin v' w5 ho hb5
    exact ⟨a', c', w5, hr, ho', hb5⟩
end
/-- an entry and its reversal leave balances as they were -/
theorem back_bal {S : Ld} {p q : Int} {ps : List Po} (F : Fine S) (h1 : postE S p ps = 0) (h2 : postE (posted S p ps) q (negP ps) = 0) (i j : Nat) (a c : Int) :
    balV (turned (posted (posted S p ps) q (negP ps)) i j) a c ((S.n : Int) - 1) = balV S a c ((S.n : Int) - 1) := by
  obtain ⟨p0, p1, _⟩ := postE_zero h1
  obtain ⟨q0, q1, _⟩ := postE_zero h2
  have hn : (posted S p ps).n = S.n := rfl
  rw [hn] at q1
  have n0 := F.n0
  unfold balV
  have hn2 : (turned (posted (posted S p ps) q (negP ps)) i j).n = S.n := rfl
  rw [hn2, if_neg (by omega), if_neg (by omega), rng_turned]
  show rng a c 0 _ ((S.L ++ [(⟨p, ps, false⟩ : En)]) ++ [(⟨q, negP ps, false⟩ : En)]) = _
  rw [rng_append, rng_append, rng_one, rng_one, if_pos (by omega), if_pos (by omega), sumP_neg]
  omega
/-- the entry that was let in, and its reversal -/
theorem back_rev {S : Ld} {p q : Int} {ps : List Po} (hr : revE (posted S p ps) (S.L.length : Int) q = 0) :
    postE (posted S p ps) q (negP ps) = 0 ∧ revS (posted S p ps) (S.L.length : Int) q = turned (posted (posted S p ps) q (negP ps)) S.L.length (S.L.length + 1) ∧ revN (posted S p ps) (S.L.length : Int) q = (S.L.length : Int) + 1 := by
  have hlen : (posted S p ps).L.length = S.L.length + 1 := by show (S.L ++ [_]).length = _; simp
  obtain ⟨e, _, hg, _, _, hp, hs⟩ := rev_some hr
  have e0 : ((S.L.length : Nat) : Int).toNat = S.L.length := by omega
  rw [e0] at hg hs
  have hg' : (S.L ++ [(⟨p, ps, false⟩ : En)])[S.L.length]? = some e := hg
  have he : e = ⟨p, ps, false⟩ := by simpa using hg'.symm
  subst he
  refine ⟨hp, ?_, ?_⟩
  · rw [hs, hlen]
  · unfold revN
    rw [if_pos hr, hlen]; omega
theorem back_twice {S : Ld} {p q r : Int} {ps : List Po} : revE (turned (posted (posted S p ps) q (negP ps)) S.L.length (S.L.length + 1)) (S.L.length : Int) r = 6 ∧ revE (turned (posted (posted S p ps) q (negP ps)) S.L.length (S.L.length + 1)) ((S.L.length : Int) + 1) r = 6 := by
  have g1 : (turned (posted (posted S p ps) q (negP ps)) S.L.length (S.L.length + 1)).L[S.L.length]? = some ⟨p, ps, true⟩ := by
    show ((((S.L ++ [_]) ++ [_]).modify S.L.length turn).modify (S.L.length + 1) turn)[S.L.length]? = _
    rw [List.getElem?_modify, List.getElem?_modify]
    simp [turn]
  have g2 : (turned (posted (posted S p ps) q (negP ps)) S.L.length (S.L.length + 1)).L[S.L.length + 1]? = some ⟨q, negP ps, true⟩ := by
    show ((((S.L ++ [_]) ++ [_]).modify S.L.length turn).modify (S.L.length + 1) turn)[S.L.length + 1]? = _
    rw [List.getElem?_modify, List.getElem?_modify]
    simp [turn]
  constructor
  · unfold revE
    rw [if_neg (by omega), show ((S.L.length : Int)).toNat = S.L.length by omega, g1]
    simp
  · unfold revE
    rw [if_neg (by omega), show ((S.L.length : Int) + 1).toNat = S.L.length + 1 by omega, g2]
    simp
end Go.Proofs.Ytginbgclifdfiaa
