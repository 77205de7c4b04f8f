/- Obligations, plainly: what Find is to tell, of lines that may be. -/
import Derived.Test.YtjmgncjadfhmcaaDuMath
import Derived.Test.YtjmgncjadfhmcaaBoE
namespace Go.Proofs.Ytjmgncjadfhmcaa
open Go.RowKit

def lnAt (l : List Ln) (k : Nat) : Ln := (l[k]?).getD ⟨0, 0, 0, 0, 0⟩
/-- a line's item -/
def imAt (S : Bs) (x : Ln) : Im := (S.I[x.it.toNat]?).getD ⟨0, 0, 0, 0⟩
/-- lines of one key belong together -/
def dKey (S : Bs) (l : List Ln) (k : Nat) : Int × Int :=
  if (imAt S (lnAt l k)).tag = 1 then (1, (imAt S (lnAt l k)).grp) else if (imAt S (lnAt l k)).tag = 2 then (2, (lnAt l k).it) else (0, (k : Int))
structure Du where
  ls : List Nat
  al : Int
  un : Int
  me : Int
  fi : Int
  la : Int
def duAt (S : Bs) (l : List Ln) (d : Int) (i : Nat) : Du :=
  ⟨mems (dKey S l) l.length i, sumN (fun k => aloV S (lnAt l k) d) (mems (dKey S l) l.length i), sumN (fun k => (lnAt l k).un) (mems (dKey S l) l.length i), (imAt S (lnAt l i)).met,
   minN (fun k => (lnAt l k).fi) i (mems (dKey S l) l.length i), maxN (fun k => (lnAt l k).la) i (mems (dKey S l) l.length i)⟩
def duties (S : Bs) (l : List Ln) (d : Int) : List Du := (fsts (dKey S l) l.length).map (duAt S l d)
def duOver (S : Bs) (l : List Ln) (d : Int) : Bool := (l.any fun x => decide (aloE S x d ≠ 0)) || (duties S l d).any fun x => !am64 x.al || !am64 x.un
def findE (S : Bs) (l : List Ln) (d : Int) : Int := if d < 0 then 1 else if chkE S l ≠ 0 then chkE S l else if duOver S l d = true then 3 else 0
def findV (S : Bs) (l : List Ln) (d : Int) : List Du := if findE S l d = 0 then duties S l d else []

theorem lnAt_some {l : List Ln} {k : Nat} {x : Ln} (h : l[k]? = some x) : lnAt l k = x := by unfold lnAt; rw [h]; rfl
/-- the reference's words on who belongs together -/
def togB (S : Bs) (l : List Ln) (i k : Nat) : Bool :=
  if i = k then true else if (imAt S (lnAt l i)).tag = 1 ∧ (imAt S (lnAt l k)).tag = 1 then decide ((imAt S (lnAt l i)).grp = (imAt S (lnAt l k)).grp) else decide ((imAt S (lnAt l i)).tag = 2) && decide ((lnAt l i).it = (lnAt l k).it)
theorem tog_key (S : Bs) (l : List Ln) (i k : Nat) : togB S l i k = decide (dKey S l k = dKey S l i) := by
  unfold togB
  by_cases hik : i = k
  · subst hik; simp
  · rw [if_neg hik, Bool.eq_iff_iff]
    have hn : ¬ ((k : Int) = (i : Int)) := by omega
    unfold dKey
    by_cases a1 : (imAt S (lnAt l i)).tag = 1
    · by_cases b1 : (imAt S (lnAt l k)).tag = 1
      · rw [if_pos ⟨a1, b1⟩, if_pos a1, if_pos b1]
        simp [eq_comm]
      · rw [if_neg (fun z => b1 z.2), if_pos a1, if_neg b1]
        have : ¬ (imAt S (lnAt l i)).tag = 2 := by omega
        by_cases b2 : (imAt S (lnAt l k)).tag = 2 <;> simp [b2, this]
    · rw [if_neg (fun z => a1 z.1), if_neg a1]
      by_cases a2 : (imAt S (lnAt l i)).tag = 2
      · rw [if_pos a2]
        by_cases e : (lnAt l i).it = (lnAt l k).it
        · have e2 : imAt S (lnAt l k) = imAt S (lnAt l i) := by unfold imAt; rw [e]
          rw [e2, if_neg a1, if_pos a2]
          simp [a2, e]
        · have : ¬ (lnAt l k).it = (lnAt l i).it := fun z => e z.symm
          by_cases b1 : (imAt S (lnAt l k)).tag = 1
          · rw [if_pos b1]; simp [e]
          · rw [if_neg b1]
            by_cases b2 : (imAt S (lnAt l k)).tag = 2
            · rw [if_pos b2]; simp [e, this]
            · rw [if_neg b2]; simp [e]
      · rw [if_neg a2]
        by_cases b1 : (imAt S (lnAt l k)).tag = 1
        · rw [if_pos b1]; simp [a2]
        · rw [if_neg b1]
          by_cases b2 : (imAt S (lnAt l k)).tag = 2
          · rw [if_pos b2]; simp [a2]
          · rw [if_neg b2]; simp [a2, hn]

/-- only who is together counts, not by which key -/
theorem mems_rel {κ κ' : Type} [DecidableEq κ] [DecidableEq κ'] {K : Nat → κ} {K' : Nat → κ'} {n : Nat} (h : ∀ i k, i < n → k < n → (K k = K i ↔ K' k = K' i)) {i : Nat} (hi : i < n) : mems K n i = mems K' n i := by
  unfold mems
  apply List.filter_congr
  intro k hk
  have := h i k hi (List.mem_range.1 hk)
  by_cases q : K k = K i
  · rw [decide_eq_true q, decide_eq_true (this.1 q)]
  · rw [decide_eq_false q, decide_eq_false (fun z => q (this.2 z))]
theorem fsts_rel {κ κ' : Type} [DecidableEq κ] [DecidableEq κ'] {K : Nat → κ} {K' : Nat → κ'} {n : Nat} (h : ∀ i k, i < n → k < n → (K k = K i ↔ K' k = K' i)) : fsts K n = fsts K' n := by
  unfold fsts
  apply List.filter_congr
  intro i hi
  have hi := List.mem_range.1 hi
  rw [Bool.eq_iff_iff, isFst_iff, isFst_iff]
  exact ⟨fun z k hk e => z k hk ((h i k hi (by omega)).2 e), fun z k hk e => z k hk ((h i k hi (by omega)).1 e)⟩
theorem lnAt_rev {l : List Ln} {k : Nat} (h : k < l.length) : lnAt l.reverse k = lnAt l (l.length - 1 - k) := by
  unfold lnAt
  rw [List.getElem?_reverse h]
theorem dKey_rev (S : Bs) (l : List Ln) : ∀ i k, i < l.length → k < l.length → (dKey S l.reverse k = dKey S l.reverse i ↔ turnK (dKey S l) l.length k = turnK (dKey S l) l.length i) := by
  intro i k hi hk
  have h1 := tog_key S l.reverse i k
  have h2 := tog_key S l (l.length - 1 - i) (l.length - 1 - k)
  have e : togB S l.reverse i k = togB S l (l.length - 1 - i) (l.length - 1 - k) := by
    unfold togB
    rw [lnAt_rev hi, lnAt_rev hk]
    by_cases q : i = k
    · have q2 : l.length - 1 - i = l.length - 1 - k := by omega
      rw [if_pos q, if_pos q2]
    · have q2 : ¬ (l.length - 1 - i = l.length - 1 - k) := by omega
      rw [if_neg q, if_neg q2]
  rw [h1, h2] at e
  rw [Bool.eq_iff_iff, decide_eq_true_eq, decide_eq_true_eq] at e
  exact e
/-- an obligation, and the one that it is, turned about -/
theorem du_turn (S : Bs) (l : List Ln) (d : Int) {i j : Nat} (hi : i ∈ fsts (dKey S l) l.length) (hj : j ∈ fsts (dKey S l.reverse) l.length) (h : turnK (dKey S l) l.length j = dKey S l i) :
    (duAt S l.reverse d j).ls = ((duAt S l d i).ls.reverse).map (fun k => l.length - 1 - k) ∧ (duAt S l.reverse d j).al = (duAt S l d i).al ∧ (duAt S l.reverse d j).un = (duAt S l d i).un ∧ (duAt S l.reverse d j).fi = (duAt S l d i).fi ∧ (duAt S l.reverse d j).la = (duAt S l d i).la := by
  have hin := (mem_fsts.1 hi).1
  have hjn := (mem_fsts.1 hj).1
  have hm : mems (dKey S l.reverse) l.length j = ((mems (dKey S l) l.length i).reverse).map (fun k => l.length - 1 - k) := by
    rw [mems_rel (dKey_rev S l) hjn]; exact mems_turn h
  have hlt : ∀ k ∈ mems (dKey S l) l.length i, k < l.length := fun k hk => (mem_mems.1 hk).1
  have hat : ∀ k, k < l.length → lnAt l.reverse (l.length - 1 - k) = lnAt l k := fun k hk => by
    rw [lnAt_rev (by omega), show l.length - 1 - (l.length - 1 - k) = k by omega]
  have hlen : l.reverse.length = l.length := List.length_reverse
  have himem : i ∈ mems (dKey S l) l.length i := mem_mems.2 ⟨hin, rfl⟩
  have hjmem : j ∈ mems (dKey S l.reverse) l.length j := mem_mems.2 ⟨hjn, rfl⟩
  have hsum : ∀ f : Ln → Int, sumN (fun k => f (lnAt l.reverse k)) (mems (dKey S l.reverse) l.length j) = sumN (fun k => f (lnAt l k)) (mems (dKey S l) l.length i) := fun f => by
    rw [hm, sumN_map, sumN_reverse]
    exact sumN_congr fun k hk => by rw [hat k (hlt k hk)]
  have hback : ∀ k ∈ mems (dKey S l.reverse) l.length j, ∃ k2 ∈ mems (dKey S l) l.length i, lnAt l.reverse k = lnAt l k2 := fun k hk => by
    rw [hm] at hk
    obtain ⟨k2, h2, rfl⟩ := List.mem_map.1 hk
    have h2 := List.mem_reverse.1 h2
    exact ⟨k2, h2, hat k2 (hlt k2 h2)⟩
  have hforth : ∀ k ∈ mems (dKey S l) l.length i, ∃ k2 ∈ mems (dKey S l.reverse) l.length j, lnAt l.reverse k2 = lnAt l k := fun k hk => by
    refine ⟨l.length - 1 - k, ?_, hat k (hlt k hk)⟩
    rw [hm]
    exact List.mem_map.2 ⟨k, List.mem_reverse.2 hk, rfl⟩
  unfold duAt
  rw [hlen]
  refine ⟨hm, hsum (fun x => aloV S x d), hsum (fun x => x.un), ?_, ?_⟩
  · obtain ⟨a1, a, ha, a2⟩ := minN_is (f := fun k => (lnAt l k).fi) himem
    obtain ⟨b1, b, hb, b2⟩ := minN_is (f := fun k => (lnAt l.reverse k).fi) hjmem
    obtain ⟨b', hb', e1⟩ := hback b hb
    obtain ⟨a', ha', e2⟩ := hforth a ha
    have h1 := a1 b' hb'
    have h2 := b1 a' ha'
    simp only [e1, e2] at *
    omega
  · obtain ⟨a1, a, ha, a2⟩ := maxN_is (f := fun k => (lnAt l k).la) himem
    obtain ⟨b1, b, hb, b2⟩ := maxN_is (f := fun k => (lnAt l.reverse k).la) hjmem
    obtain ⟨b', hb', e1⟩ := hback b hb
    obtain ⟨a', ha', e2⟩ := hforth a ha
    have h1 := a1 b' hb'
    have h2 := b1 a' ha'
    simp only [e1, e2] at *
    omega
end Go.Proofs.Ytjmgncjadfhmcaa

namespace Go.Proofs.Ytjmgncjadfhmcaa
open Go.RowKit

theorem all_reverse {α : Type} (p : α → Bool) (l : List α) : l.reverse.all p = l.all p := by
  rw [Bool.eq_iff_iff, List.all_eq_true, List.all_eq_true]
  exact ⟨fun h x hx => h x (List.mem_reverse.2 hx), fun h x hx => h x (List.mem_reverse.1 hx)⟩
theorem any_reverse {α : Type} (p : α → Bool) (l : List α) : l.reverse.any p = l.any p := by
  rw [Bool.eq_iff_iff, List.any_eq_true, List.any_eq_true]
  exact ⟨fun ⟨x, hx, h⟩ => ⟨x, List.mem_reverse.1 hx, h⟩, fun ⟨x, hx, h⟩ => ⟨x, List.mem_reverse.2 hx, h⟩⟩
theorem chkE_rev (S : Bs) (l : List Ln) : chkE S l.reverse = chkE S l := by
  unfold chkE
  rw [List.length_reverse, all_reverse]
theorem fsts_rev (S : Bs) (l : List Ln) : fsts (dKey S l.reverse) l.length = fsts (turnK (dKey S l) l.length) l.length := fsts_rel (dKey_rev S l)
theorem duties_rev_len (S : Bs) (l : List Ln) (d : Int) : (duties S l.reverse d).length = (duties S l d).length := by
  unfold duties
  rw [List.length_map, List.length_map, List.length_reverse, fsts_rev, fsts_turn]
/-- of each obligation the one that it is, turned about; and back -/
theorem du_forth (S : Bs) (l : List Ln) {i : Nat} (hi : i ∈ fsts (dKey S l) l.length) : ∃ j ∈ fsts (dKey S l.reverse) l.length, turnK (dKey S l) l.length j = dKey S l i := by
  obtain ⟨j, h1, h2⟩ := turn_key (K := dKey S l) (mem_fsts.1 hi).1
  exact ⟨j, by rw [fsts_rev]; exact h1, h2⟩
theorem du_back (S : Bs) (l : List Ln) {j : Nat} (hj : j ∈ fsts (dKey S l.reverse) l.length) : ∃ i ∈ fsts (dKey S l) l.length, turnK (dKey S l) l.length j = dKey S l i := by
  obtain ⟨i, h1, h2⟩ := turn_back (K := dKey S l) (mem_fsts.1 hj).1
  exact ⟨i, h1, h2.symm⟩
theorem duOver_rev (S : Bs) (l : List Ln) (d : Int) : duOver S l.reverse d = duOver S l d := by
  unfold duOver
  rw [any_reverse]
  congr 1
  unfold duties
  rw [List.length_reverse, Bool.eq_iff_iff, List.any_eq_true, List.any_eq_true]
  constructor
  · rintro ⟨x, hx, h⟩
    obtain ⟨j, hj, rfl⟩ := List.mem_map.1 hx
    obtain ⟨i, hi, e⟩ := du_back S l hj
    obtain ⟨_, e1, e2, _⟩ := du_turn S l d hi hj e
    exact ⟨duAt S l d i, List.mem_map.2 ⟨i, hi, rfl⟩, by rw [← e1, ← e2]; exact h⟩
  · rintro ⟨x, hx, h⟩
    obtain ⟨i, hi, rfl⟩ := List.mem_map.1 hx
    obtain ⟨j, hj, e⟩ := du_forth S l hi
    obtain ⟨_, e1, e2, _⟩ := du_turn S l d hi hj e
    exact ⟨duAt S l.reverse d j, List.mem_map.2 ⟨j, hj, rfl⟩, by rw [e1, e2]; exact h⟩
theorem findE_rev (S : Bs) (l : List Ln) (d : Int) : findE S l.reverse d = findE S l d := by
  unfold findE
  rw [chkE_rev, duOver_rev]
theorem findV_rev_len (S : Bs) (l : List Ln) (d : Int) : (findV S l.reverse d).length = (findV S l d).length := by
  unfold findV
  rw [findE_rev]
  split
  · exact duties_rev_len S l d
  · rfl
/-- are two the same, but for places and method? -/
def oneB (a b : Du) : Bool := decide (a.al = b.al) && decide (a.un = b.un) && decide (a.fi = b.fi) && decide (a.la = b.la) && decide (a.ls.length = b.ls.length)
/-- does the second end where the first begins, turned about, and is it the same? -/
def meetB (n : Nat) (a b : Du) : Bool := decide (b.ls.getLast? = (a.ls.head?).map fun k => n - 1 - k) && oneB a b
theorem duAt_head (S : Bs) (l : List Ln) (d : Int) {i : Nat} (hi : i ∈ fsts (dKey S l) l.length) : (duAt S l d i).ls.head? = some i := by
  obtain ⟨t, ht⟩ := mems_head hi
  show (mems (dKey S l) l.length i).head? = some i
  rw [ht]; rfl
theorem meet_is (S : Bs) (l : List Ln) (d : Int) {i j : Nat} (hi : i ∈ fsts (dKey S l) l.length) (hj : j ∈ fsts (dKey S l.reverse) l.length) : meetB l.length (duAt S l d i) (duAt S l.reverse d j) = true ↔ turnK (dKey S l) l.length j = dKey S l i := by
  have hjn := (mem_fsts.1 hj).1
  have hls : (duAt S l.reverse d j).ls = mems (turnK (dKey S l) l.length) l.length j := by
    show mems (dKey S l.reverse) l.reverse.length j = _
    rw [List.length_reverse, mems_rel (dKey_rev S l) hjn]
  have hlast := turn_last (K := dKey S l) (n := l.length) (j := j) hi
  unfold meetB
  rw [duAt_head S l d hi, hls, Bool.and_eq_true, decide_eq_true_eq, Option.map_some, hlast]
  refine ⟨fun h => h.1, fun h => ⟨h, ?_⟩⟩
  obtain ⟨e1, e2, e3, e4, e5⟩ := du_turn S l d hi hj h
  unfold oneB
  rw [e1, e2, e3, e4, e5]
  simp
/-- each meets just one -/
theorem meet_one (S : Bs) (l : List Ln) (d : Int) {i : Nat} (hi : i ∈ fsts (dKey S l) l.length) : sumN (fun j => if meetB l.length (duAt S l d i) (duAt S l.reverse d j) = true then 1 else 0) (fsts (dKey S l.reverse) l.length) = 1 := by
  obtain ⟨j, hj, e⟩ := du_forth S l hi
  rw [sumN_only (asc_nodup fsts_asc) hj fun k hk hne => if_neg fun z => hne ?_]
  · exact if_pos ((meet_is S l d hi hj).2 e)
  · have e2 := (meet_is S l d hi hk).1 z
    rw [fsts_rev] at hk hj
    exact fst_one hk hj (e2.trans e.symm)
/-- a line's days lie within its obligation's -/
theorem du_days (S : Bs) (l : List Ln) (d : Int) {i k : Nat} (hi : i ∈ fsts (dKey S l) l.length) (hk : k ∈ (duAt S l d i).ls) : k < l.length ∧ (duAt S l d i).fi ≤ (lnAt l k).fi ∧ (lnAt l k).la ≤ (duAt S l d i).la := by
  have himem : i ∈ mems (dKey S l) l.length i := mem_mems.2 ⟨(mem_fsts.1 hi).1, rfl⟩
  exact ⟨(mem_mems.1 hk).1, (minN_is (f := fun k => (lnAt l k).fi) himem).1 k hk, (maxN_is (f := fun k => (lnAt l k).la) himem).1 k hk⟩
/-- what all are worth alone, and their units, are what the lines are, together -/
theorem du_sums (S : Bs) (l : List Ln) (d : Int) : sumN (fun i => (duAt S l d i).al) (fsts (dKey S l) l.length) = sumN (fun k => aloV S (lnAt l k) d) (List.range l.length) ∧ sumN (fun i => (duAt S l d i).un) (fsts (dKey S l) l.length) = sumN (fun k => (lnAt l k).un) (List.range l.length) :=
  ⟨sum_parts _, sum_parts _⟩
end Go.Proofs.Ytjmgncjadfhmcaa
