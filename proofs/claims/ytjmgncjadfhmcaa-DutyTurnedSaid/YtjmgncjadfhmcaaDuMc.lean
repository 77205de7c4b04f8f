/- Obligations, plainly: turned about; each line of one. -/
import Derived.Test.YtjmgncjadfhmcaaDuMb
namespace Go.Proofs.Ytjmgncjadfhmcaa
open Go.RowKit

theorem all_reverse {α : Type} (p : α → Bool) (l : List α) : l.reverse.all p = l.all p := by
  rw [Bool.eq_iff_iff, List.all_eq_true, List.all_eq_true]
  exact ⟨fun h x hx => h x (List.mem_reverse.2 hx), fun h x hx => h x (List.mem_reverse.1 hx)⟩
theorem any_reverse {α : Type} (p : α → Bool) (l : List α) : l.reverse.any p = l.any p := by
  rw [Bool.eq_iff_iff, List.any_eq_true, List.any_eq_true]
  exact ⟨fun ⟨x, hx, h⟩ => ⟨x, List.mem_reverse.1 hx, h⟩, fun ⟨x, hx, h⟩ => ⟨x, List.mem_reverse.2 hx, h⟩⟩
theorem chkE_rev (S : Bs) (l : List Ln) : chkE S l.reverse = chkE S l := by
  unfold chkE
  rw [List.length_reverse, all_reverse]
theorem fsts_rev (S : Bs) (l : List Ln) : fsts (dKey S l.reverse) l.length = fsts (turnK (dKey S l) l.length) l.length := fsts_rel (dKey_rev S l)
theorem duties_rev_len (S : Bs) (l : List Ln) (d : Int) : (duties S l.reverse d).length = (duties S l d).length := by
  unfold duties
  rw [List.length_map, List.length_map, List.length_reverse, fsts_rev, fsts_turn]
/-- of each obligation the one that it is, turned about; and back -/
theorem du_forth (S : Bs) (l : List Ln) {i : Nat} (hi : i ∈ fsts (dKey S l) l.length) : ∃ j ∈ fsts (dKey S l.reverse) l.length, turnK (dKey S l) l.length j = dKey S l i := by
  obtain ⟨j, h1, h2⟩ := turn_key (K := dKey S l) (mem_fsts.1 hi).1
  exact ⟨j, by rw [fsts_rev]; exact h1, h2⟩
theorem du_back (S : Bs) (l : List Ln) {j : Nat} (hj : j ∈ fsts (dKey S l.reverse) l.length) : ∃ i ∈ fsts (dKey S l) l.length, turnK (dKey S l) l.length j = dKey S l i := by
  obtain ⟨i, h1, h2⟩ := turn_back (K := dKey S l) (mem_fsts.1 hj).1
  exact ⟨i, h1, h2.symm⟩
theorem duOver_rev (S : Bs) (l : List Ln) (d : Int) : duOver S l.reverse d = duOver S l d := by
  unfold duOver
  rw [any_reverse]
  congr 1
  unfold duties
  rw [List.length_reverse, Bool.eq_iff_iff, List.any_eq_true, List.any_eq_true]
  constructor
  · rintro ⟨x, hx, h⟩
    obtain ⟨j, hj, rfl⟩ := List.mem_map.1 hx
    obtain ⟨i, hi, e⟩ := du_back S l hj
    obtain ⟨_, e1, e2, _⟩ := du_turn S l d hi hj e
    exact ⟨duAt S l d i, List.mem_map.2 ⟨i, hi, rfl⟩, by rw [← e1, ← e2]; exact h⟩
  · rintro ⟨x, hx, h⟩
    obtain ⟨i, hi, rfl⟩ := List.mem_map.1 hx
    obtain ⟨j, hj, e⟩ := du_forth S l hi
    obtain ⟨_, e1, e2, _⟩ := du_turn S l d hi hj e
    exact ⟨duAt S l.reverse d j, List.mem_map.2 ⟨j, hj, rfl⟩, by rw [e1, e2]; exact h⟩
theorem findE_rev (S : Bs) (l : List Ln) (d : Int) : findE S l.reverse d = findE S l d := by
  unfold findE
  rw [chkE_rev, duOver_rev]
theorem findV_rev_len (S : Bs) (l : List Ln) (d : Int) : (findV S l.reverse d).length = (findV S l d).length := by
  unfold findV
  rw [findE_rev]
  split
  · exact duties_rev_len S l d
  · rfl
/-- are two the same, but for places and method? -/
def oneB (a b : Du) : Bool := decide (a.al = b.al) && decide (a.un = b.un) && decide (a.fi = b.fi) && decide (a.la = b.la) && decide (a.ls.length = b.ls.length)
/-- does the second end where the first begins, turned about, and is it the same? -/
def meetB (n : Nat) (a b : Du) : Bool := decide (b.ls.getLast? = (a.ls.head?).map fun k => n - 1 - k) && oneB a b
theorem duAt_head (S : Bs) (l : List Ln) (d : Int) {i : Nat} (hi : i ∈ fsts (dKey S l) l.length) : (duAt S l d i).ls.head? = some i := by
  obtain ⟨t, ht⟩ := mems_head hi
  show (mems (dKey S l) l.length i).head? = some i
  rw [ht]; rfl
theorem meet_is (S : Bs) (l : List Ln) (d : Int) {i j : Nat} (hi : i ∈ fsts (dKey S l) l.length) (hj : j ∈ fsts (dKey S l.reverse) l.length) : meetB l.length (duAt S l d i) (duAt S l.reverse d j) = true ↔ turnK (dKey S l) l.length j = dKey S l i := by
  have hjn := (mem_fsts.1 hj).1
  have hls : (duAt S l.reverse d j).ls = mems (turnK (dKey S l) l.length) l.length j := by
    show mems (dKey S l.reverse) l.reverse.length j = _
    rw [List.length_reverse, mems_rel (dKey_rev S l) hjn]
  have hlast := turn_last (K := dKey S l) (n := l.length) (j := j) hi
  unfold meetB
  rw [duAt_head S l d hi, hls, Bool.and_eq_true, decide_eq_true_eq, Option.map_some, hlast]
  refine ⟨fun h => h.1, fun h => ⟨h, ?_⟩⟩
  obtain ⟨e1, e2, e3, e4, e5⟩ := du_turn S l d hi hj h
  unfold oneB
  rw [e1, e2, e3, e4, e5]
  simp
/-- each meets just one -/
theorem meet_one (S : Bs) (l : List Ln) (d : Int) {i : Nat} (hi : i ∈ fsts (dKey S l) l.length) : sumN (fun j => if meetB l.length (duAt S l d i) (duAt S l.reverse d j) = true then 1 else 0) (fsts (dKey S l.reverse) l.length) = 1 := by
  obtain ⟨j, hj, e⟩ := du_forth S l hi
  rw [sumN_only (asc_nodup fsts_asc) hj fun k hk hne => if_neg fun z => hne ?_]
  · exact if_pos ((meet_is S l d hi hj).2 e)
  · have e2 := (meet_is S l d hi hk).1 z
    rw [fsts_rev] at hk hj
    exact fst_one hk hj (e2.trans e.symm)
/-- a line's days lie within its obligation's -/
theorem du_days (S : Bs) (l : List Ln) (d : Int) {i k : Nat} (hi : i ∈ fsts (dKey S l) l.length) (hk : k ∈ (duAt S l d i).ls) : k < l.length ∧ (duAt S l d i).fi ≤ (lnAt l k).fi ∧ (lnAt l k).la ≤ (duAt S l d i).la := by
  have himem : i ∈ mems (dKey S l) l.length i := mem_mems.2 ⟨(mem_fsts.1 hi).1, rfl⟩
  exact ⟨(mem_mems.1 hk).1, (minN_is (f := fun k => (lnAt l k).fi) himem).1 k hk, (maxN_is (f := fun k => (lnAt l k).la) himem).1 k hk⟩
/-- what all are worth alone, and their units, are what the lines are, together -/
theorem du_sums (S : Bs) (l : List Ln) (d : Int) : sumN (fun i => (duAt S l d i).al) (fsts (dKey S l) l.length) = sumN (fun k => aloV S (lnAt l k) d) (List.range l.length) ∧ sumN (fun i => (duAt S l d i).un) (fsts (dKey S l) l.length) = sumN (fun k => (lnAt l k).un) (List.range l.length) :=
  ⟨sum_parts _, sum_parts _⟩
end Go.Proofs.Ytjmgncjadfhmcaa
