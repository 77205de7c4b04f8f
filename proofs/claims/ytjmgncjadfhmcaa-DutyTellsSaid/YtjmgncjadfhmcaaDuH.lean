/- Find. -/
import Derived.Test.YtjmgncjadfhmcaaDuG
namespace Go.Proofs.Ytjmgncjadfhmcaa
open Go.RowKit

theorem infoDuty : (Try.prog.info? 43).map (fun i => (i.zero, i.size, i.bytes)) = some (some (.agg #[.slice none 0 0, .int .i64 0, .int .i64 0, .int .i64 0, .int .i64 0, .int .i64 0]), 6, 64) := by kernel_rfl
/-- what Find answers -/
def FindR (w : World) (S : Bs) (l : List Ln) (d : Int) (e : Ending) (w' : World) : Prop := ∃ a c X, e = .returned (.tuple #[.slice a X.length c, .int .i64 (findE S l d)]) ∧ X.map DuX.d = findV S l d ∧ DusA w' a X ∧ Below w.heap.size w w'
theorem find_no {w w' : World} {S : Bs} {l : List Ln} {d E : Int} (hE : findE S l d = E) (h0 : E ≠ 0) (hb : Below w.heap.size w w') : FindR w S l d (.returned (.tuple #[.slice none 0 0, .int .i64 E])) w' :=
  ⟨none, 0, [], by rw [hE]; rfl, by unfold findV; rw [if_neg (by rw [hE]; exact h0)]; rfl, ⟨.inl rfl, fun x hx => by cases hx⟩, hb⟩
/-- the obligation of a row of places -/
def dxOf (S : Bs) (l : List Ln) (d : Int) (x : NsX) : DuX := ⟨x.a, x.cap, duOf S l d (x.l.headD 0) x.l⟩
theorem dus_of {S : Bs} {l : List Ln} {d : Int} {X : List NsX} (h : X.map NsX.l = groups (dKey S l) l.length) : (X.map (dxOf S l d)).map DuX.d = duties S l d := by
  rw [List.map_map]
  have e : (DuX.d ∘ dxOf S l d) = (fun ls : List Nat => duOf S l d (ls.headD 0) ls) ∘ NsX.l := rfl
  rw [e, ← List.map_map, h]
  unfold groups duties
  rw [List.map_map]
  apply List.map_congr_left
  intro i hi
  obtain ⟨t, ht⟩ := mems_head hi
  show duOf S l d ((mems (dKey S l) l.length i).headD 0) (mems (dKey S l) l.length i) = duAt S l d i
  rw [duAt_of, ht]; rfl
theorem row_is {K : Nat → Kk} {n : Nat} {X : List NsX} (h : X.map NsX.l = groups K n) {t : Nat} {x : NsX} (hx : X[t]? = some x) : ∃ i ∈ fsts K n, x.l = mems K n i ∧ x.l[0]? = some i ∧ (∀ k ∈ x.l, k < n) ∧ x.l.length ≤ n ∧ x.l.headD 0 = i := by
  have h1 := congrArg (fun L => L[t]?) h
  simp only [groups, List.getElem?_map, hx, Option.map_some] at h1
  obtain ⟨i, hi, e⟩ := Option.map_eq_some_iff.1 h1.symm
  have him := List.mem_of_getElem? hi
  obtain ⟨u, hu⟩ := mems_head him
  refine ⟨i, him, e.symm, by rw [← e, hu]; rfl, fun k hk => ?_, ?_, by rw [← e, hu]; rfl⟩
  · rw [← e] at hk; exact (mem_mems.1 hk).1
  · rw [← e]
    have := List.length_filter_le (fun j => decide (K j = K i)) (List.range n)
    rw [List.length_range] at this; exact this
/-- what Find bears behind t obligations -/
structure FiS (w1 wr : World) (S : Bs) (l : List Ln) (d : Int) (X : List NsX) (t : Nat) (vd : Value) : Prop where
  own : OwL wr w1.heap.size [⟨43, 6, vd, t, ((X.take t).map (dxOf S l d)).flatMap DuX.cells⟩]
  fine : ∀ x ∈ X.take t, owE S l d x.l 0 0 = 0
  bel : Below w1.heap.size w1 wr
section
variable {w1 wr w' : World} {S : Bs} {l : List Ln} {d : Int} {X : List NsX} {t : Nat} {vd : Value}
theorem FiS.up (h : FiS w1 wr S l d X t vd) (q : Below wr.heap.size wr w') : FiS w1 w' S l d X t vd := ⟨h.own.up q, h.fine, up2 h.bel q⟩
theorem FiS.start (w1 : World) (S : Bs) (l : List Ln) (d : Int) (X : List NsX) : FiS w1 w1 S l d X 0 (.slice none 0 0) :=
  ⟨OwL.nils fun x hx => by rw [List.mem_singleton] at hx; subst hx; exact ⟨_, _, rfl⟩, fun x hx => by simp at hx, Below.refl _ _⟩
theorem FiS.more (h : FiS w1 wr S l d X t vd) {x : NsX} (hx : X[t]? = some x) (ht : t ≤ 1000) (h0 : owE S l d x.l 0 0 = 0) {y : Nat} (hy : Has wr y 43 (dxOf S l d x).cells.toArray) :
    ∃ v w5, (Builtin.append_ #[34, 34] 34 #[vd, .slice (some ⟨y, 0, none⟩) 1 1]).run Try.prog wr = .ok v w5 ∧ FiS w1 w5 S l d X (t + 1) v := by
  obtain ⟨v, w5, hr, ho, hb, _, _⟩ := h.own.app (i := 0) rfl (t := 34) (ty := 34) Try.underlying34 infoDuty rfl (Nat.zero_lt_succ _) (by decide) (dxOf S l d x).cells rfl (ad := ⟨y, 0, none⟩) (fun j u hu => by
    rw [addr_off, Nat.zero_add, hy.cell]
    exact (List.getElem?_toArray (xs := (dxOf S l d x).cells) (i := j)).trans hu) (fun u hu => by
      simp [DuX.cells] at hu
      rcases hu with rfl | rfl | rfl | rfl | rfl | rfl <;> rfl) (by simp only; omega) h.bel (Nat.le_refl _) h.bel.size
  refine ⟨v, w5, hr, ⟨?_, fun z hz => ?_, hb⟩⟩
  · rw [take_snoc hx, List.map_append, List.flatMap_append, List.map_singleton, List.flatMap_singleton]
    exact ho
  · rw [take_snoc hx] at hz
    rcases List.mem_append.1 hz with hz | hz
    · exact h.fine z hz
    · rw [List.mem_singleton.1 hz]; exact h0
end
/-- who comes to the end -/
theorem find_zero {S : Bs} {l : List Ln} {d : Int} (hd : 0 ≤ d) (hc : chkE S l = 0) {X : List NsX} (h : X.map NsX.l = groups (dKey S l) l.length) (hf : ∀ x ∈ X, dOver S l d x.l = false) : findE S l d = 0 := by
  unfold findE
  rw [if_neg (by omega), if_neg (by omega), duOver_any, if_neg]
  rw [List.any_eq_true]
  rintro ⟨i, hi, ho⟩
  have hm : mems (dKey S l) l.length i ∈ X.map NsX.l := by rw [h]; exact List.mem_map.2 ⟨i, hi, rfl⟩
  obtain ⟨x, hx, e⟩ := List.mem_map.1 hm
  have := hf x hx
  rw [e, ho] at this; cases this
theorem find_three {S : Bs} {l : List Ln} {d : Int} (hd : 0 ≤ d) (hc : chkE S l = 0) {i : Nat} (hi : i ∈ fsts (dKey S l) l.length) (ho : dOver S l d (mems (dKey S l) l.length i) = true) : findE S l d = 3 := by
  unfold findE
  rw [if_neg (by omega), if_neg (by omega), duOver_any, if_pos (List.any_eq_true.2 ⟨i, hi, ho⟩)]
theorem chk_zero {S : Bs} {l : List Ln} (h : chkE S l = 0) : l.length ≤ 12 ∧ ∀ x ∈ l, lnB S x = true := by
  unfold chkE at h
  split at h
  · cases h
  · split at h
    · cases h
    · split at h
      · rename_i h1 h2 h3
        exact ⟨by omega, List.all_eq_true.1 h3⟩
      · cases h
/-- prices are no less than 1 -/
theorem pri_pos {S : Bs} (F : FineB S) (x : Ln) (d : Int) : 0 ≤ priV S x.it d := by
  unfold priV
  split
  · obtain ⟨_, h | ⟨y, hy, _, _, h⟩, _⟩ := best_is S x.it d
    · rw [h]
      show 0 ≤ pri0 S x.it
      unfold pri0
      cases q : S.I[x.it.toNat]? with
      | none => simp
      | some m =>
        have hm := (F.items m (List.mem_of_getElem? q)).1
        simp only [imB, Bool.and_eq_true, decide_eq_true_eq] at hm
        simp only [Option.map_some, Option.getD_some]; omega
    · rw [h]; have := (F.am y hy).1; simp only; omega
  · exact Int.le_refl _
theorem lines_nn {S : Bs} (F : FineB S) {l : List Ln} (hall : ∀ x ∈ l, lnB S x = true) (d : Int) {k : Nat} (hk : k < l.length) : lnB S (lnAt l k) = true ∧ 0 ≤ aloV S (lnAt l k) d ∧ 0 ≤ (lnAt l k).un := by
  have e : lnAt l k = l[k] := lnAt_some (List.getElem?_eq_getElem hk)
  have h1 := hall l[k] (List.getElem_mem hk)
  rw [e]
  have h2 := (lnB_has h1).2
  exact ⟨h1, aloV_nn _ _ (Int.mul_nonneg (pri_pos F _ d) (by omega)), by omega⟩
end Go.Proofs.Ytjmgncjadfhmcaa
