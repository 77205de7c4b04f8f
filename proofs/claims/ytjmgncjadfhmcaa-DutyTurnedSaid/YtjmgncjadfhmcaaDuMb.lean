/- Obligations, plainly: what Find is to tell, of lines that may be. -/
import Derived.Test.YtjmgncjadfhmcaaDuMath
import Derived.Test.YtjmgncjadfhmcaaBoE
namespace Go.Proofs.Ytjmgncjadfhmcaa
open Go.RowKit

def lnAt (l : List Ln) (k : Nat) : Ln := (l[k]?).getD ⟨0, 0, 0, 0, 0⟩
/-- a line's item -/
def imAt (S : Bs) (x : Ln) : Im := (S.I[x.it.toNat]?).getD ⟨0, 0, 0, 0⟩
/-- lines of one key belong together -/
def dKey (S : Bs) (l : List Ln) (k : Nat) : Int × Int :=
  if (imAt S (lnAt l k)).tag = 1 then (1, (imAt S (lnAt l k)).grp) else if (imAt S (lnAt l k)).tag = 2 then (2, (lnAt l k).it) else (0, (k : Int))
structure Du where
  ls : List Nat
  al : Int
  un : Int
  me : Int
  fi : Int
  la : Int
def duAt (S : Bs) (l : List Ln) (d : Int) (i : Nat) : Du :=
  ⟨mems (dKey S l) l.length i, sumN (fun k => aloV S (lnAt l k) d) (mems (dKey S l) l.length i), sumN (fun k => (lnAt l k).un) (mems (dKey S l) l.length i), (imAt S (lnAt l i)).met,
   minN (fun k => (lnAt l k).fi) i (mems (dKey S l) l.length i), maxN (fun k => (lnAt l k).la) i (mems (dKey S l) l.length i)⟩
def duties (S : Bs) (l : List Ln) (d : Int) : List Du := (fsts (dKey S l) l.length).map (duAt S l d)
def duOver (S : Bs) (l : List Ln) (d : Int) : Bool := (l.any fun x => decide (aloE S x d ≠ 0)) || (duties S l d).any fun x => !am64 x.al || !am64 x.un
def findE (S : Bs) (l : List Ln) (d : Int) : Int := if d < 0 then 1 else if chkE S l ≠ 0 then chkE S l else if duOver S l d = true then 3 else 0
def findV (S : Bs) (l : List Ln) (d : Int) : List Du := if findE S l d = 0 then duties S l d else []

theorem lnAt_some {l : List Ln} {k : Nat} {x : Ln} (h : l[k]? = some x) : lnAt l k = x := by unfold lnAt; rw [h]; rfl
/-- the reference's words on who belongs together -/
def togB (S : Bs) (l : List Ln) (i k : Nat) : Bool :=
  if i = k then true else if (imAt S (lnAt l i)).tag = 1 ∧ (imAt S (lnAt l k)).tag = 1 then decide ((imAt S (lnAt l i)).grp = (imAt S (lnAt l k)).grp) else decide ((imAt S (lnAt l i)).tag = 2) && decide ((lnAt l i).it = (lnAt l k).it)
theorem tog_key (S : Bs) (l : List Ln) (i k : Nat) : togB S l i k = decide (dKey S l k = dKey S l i) := by
  unfold togB
  by_cases hik : i = k
  · subst hik; simp
  · rw [if_neg hik, Bool.eq_iff_iff]
    have hn : ¬ ((k : Int) = (i : Int)) := by omega
    unfold dKey
    by_cases a1 : (imAt S (lnAt l i)).tag = 1
    · by_cases b1 : (imAt S (lnAt l k)).tag = 1
      · rw [if_pos ⟨a1, b1⟩, if_pos a1, if_pos b1]
        simp [eq_comm]
      · rw [if_neg (fun z => b1 z.2), if_pos a1, if_neg b1]
        have : ¬ (imAt S (lnAt l i)).tag = 2 := by omega
        by_cases b2 : (imAt S (lnAt l k)).tag = 2 <;> simp [b2, this]
    · rw [if_neg (fun z => a1 z.1), if_neg a1]
      by_cases a2 : (imAt S (lnAt l i)).tag = 2
      · rw [if_pos a2]
        by_cases e : (lnAt l i).it = (lnAt l k).it
        · have e2 : imAt S (lnAt l k) = imAt S (lnAt l i) := by unfold imAt; rw [e]
          rw [e2, if_neg a1, if_pos a2]
          simp [a2, e]
        · have : ¬ (lnAt l k).it = (lnAt l i).it := fun z => e z.symm
          by_cases b1 : (imAt S (lnAt l k)).tag = 1
          · rw [if_pos b1]; simp [e]
          · rw [if_neg b1]
            by_cases b2 : (imAt S (lnAt l k)).tag = 2
            · rw [if_pos b2]; simp [e, this]
            · rw [if_neg b2]; simp [e]
      · rw [if_neg a2]
        by_cases b1 : (imAt S (lnAt l k)).tag = 1
        · rw [if_pos b1]; simp [a2]
        · rw [if_neg b1]
          by_cases b2 : (imAt S (lnAt l k)).tag = 2
          · rw [if_pos b2]; simp [a2]
          · rw [if_neg b2]; simp [a2, hn]

/-- only who is together counts, not by which key -/
theorem mems_rel {κ κ' : Type} [DecidableEq κ] [DecidableEq κ'] {K : Nat → κ} {K' : Nat → κ'} {n : Nat} (h : ∀ i k, i < n → k < n → (K k = K i ↔ K' k = K' i)) {i : Nat} (hi : i < n) : mems K n i = mems K' n i := by
  unfold mems
  apply List.filter_congr
  intro k hk
  have := h i k hi (List.mem_range.1 hk)
  by_cases q : K k = K i
  · rw [decide_eq_true q, decide_eq_true (this.1 q)]
  · rw [decide_eq_false q, decide_eq_false (fun z => q (this.2 z))]
theorem fsts_rel {κ κ' : Type} [DecidableEq κ] [DecidableEq κ'] {K : Nat → κ} {K' : Nat → κ'} {n : Nat} (h : ∀ i k, i < n → k < n → (K k = K i ↔ K' k = K' i)) : fsts K n = fsts K' n := by
  unfold fsts
  apply List.filter_congr
  intro i hi
  have hi := List.mem_range.1 hi
  rw [Bool.eq_iff_iff, isFst_iff, isFst_iff]
  exact ⟨fun z k hk e => z k hk ((h i k hi (by omega)).2 e), fun z k hk e => z k hk ((h i k hi (by omega)).1 e)⟩
theorem lnAt_rev {l : List Ln} {k : Nat} (h : k < l.length) : lnAt l.reverse k = lnAt l (l.length - 1 - k) := by
  unfold lnAt
  rw [List.getElem?_reverse h]
theorem dKey_rev (S : Bs) (l : List Ln) : ∀ i k, i < l.length → k < l.length → (dKey S l.reverse k = dKey S l.reverse i ↔ turnK (dKey S l) l.length k = turnK (dKey S l) l.length i) := by
  intro i k hi hk
  have h1 := tog_key S l.reverse i k
  have h2 := tog_key S l (l.length - 1 - i) (l.length - 1 - k)
  have e : togB S l.reverse i k = togB S l (l.length - 1 - i) (l.length - 1 - k) := by
    unfold togB
    rw [lnAt_rev hi, lnAt_rev hk]
    by_cases q : i = k
    · have q2 : l.length - 1 - i = l.length - 1 - k := by omega
      rw [if_pos q, if_pos q2]
    · have q2 : ¬ (l.length - 1 - i = l.length - 1 - k) := by omega
      rw [if_neg q, if_neg q2]
  rw [h1, h2] at e
  rw [Bool.eq_iff_iff, decide_eq_true_eq, decide_eq_true_eq] at e
  exact e
/-- an obligation, and the one that it is, turned about -/
theorem du_turn (S : Bs) (l : List Ln) (d : Int) {i j : Nat} (hi : i ∈ fsts (dKey S l) l.length) (hj : j ∈ fsts (dKey S l.reverse) l.length) (h : turnK (dKey S l) l.length j = dKey S l i) :
    (duAt S l.reverse d j).ls = ((duAt S l d i).ls.reverse).map (fun k => l.length - 1 - k) ∧ (duAt S l.reverse d j).al = (duAt S l d i).al ∧ (duAt S l.reverse d j).un = (duAt S l d i).un ∧ (duAt S l.reverse d j).fi = (duAt S l d i).fi ∧ (duAt S l.reverse d j).la = (duAt S l d i).la := by
  have hin := (mem_fsts.1 hi).1
  have hjn := (mem_fsts.1 hj).1
  have hm : mems (dKey S l.reverse) l.length j = ((mems (dKey S l) l.length i).reverse).map (fun k => l.length - 1 - k) := by
    rw [mems_rel (dKey_rev S l) hjn]; exact mems_turn h
  have hlt : ∀ k ∈ mems (dKey S l) l.length i, k < l.length := fun k hk => (mem_mems.1 hk).1
  have hat : ∀ k, k < l.length → lnAt l.reverse (l.length - 1 - k) = lnAt l k := fun k hk => by
    rw [lnAt_rev (by omega), show l.length - 1 - (l.length - 1 - k) = k by omega]
  have hlen : l.reverse.length = l.length := List.length_reverse
  have himem : i ∈ mems (dKey S l) l.length i := mem_mems.2 ⟨hin, rfl⟩
  have hjmem : j ∈ mems (dKey S l.reverse) l.length j := mem_mems.2 ⟨hjn, rfl⟩
  have hsum : ∀ f : Ln → Int, sumN (fun k => f (lnAt l.reverse k)) (mems (dKey S l.reverse) l.length j) = sumN (fun k => f (lnAt l k)) (mems (dKey S l) l.length i) := fun f => by
    rw [hm, sumN_map, sumN_reverse]
    exact sumN_congr fun k hk => by rw [hat k (hlt k hk)]
  have hback : ∀ k ∈ mems (dKey S l.reverse) l.length j, ∃ k2 ∈ mems (dKey S l) l.length i, lnAt l.reverse k = lnAt l k2 := fun k hk => by
    rw [hm] at hk
    obtain ⟨k2, h2, rfl⟩ := List.mem_map.1 hk
    have h2 := List.mem_reverse.1 h2
    exact ⟨k2, h2, hat k2 (hlt k2 h2)⟩
  have hforth : ∀ k ∈ mems (dKey S l) l.length i, ∃ k2 ∈ mems (dKey S l.reverse) l.length j, lnAt l.reverse k2 = lnAt l k := fun k hk => by
    refine ⟨l.length - 1 - k, ?_, hat k (hlt k hk)⟩
    rw [hm]
    exact List.mem_map.2 ⟨k, List.mem_reverse.2 hk, rfl⟩
  unfold duAt
  rw [hlen]
  refine ⟨hm, hsum (fun x => aloV S x d), hsum (fun x => x.un), ?_, ?_⟩
  · obtain ⟨a1, a, ha, a2⟩ := minN_is (f := fun k => (lnAt l k).fi) himem
    obtain ⟨b1, b, hb, b2⟩ := minN_is (f := fun k => (lnAt l.reverse k).fi) hjmem
    obtain ⟨b', hb', e1⟩ := hback b hb
    obtain ⟨a', ha', e2⟩ := hforth a ha
    have h1 := a1 b' hb'
    have h2 := b1 a' ha'
    simp only [e1, e2] at *
    omega
  · obtain ⟨a1, a, ha, a2⟩ := maxN_is (f := fun k => (lnAt l k).la) himem
    obtain ⟨b1, b, hb, b2⟩ := maxN_is (f := fun k => (lnAt l.reverse k).la) hjmem
    obtain ⟨b', hb', e1⟩ := hback b hb
    obtain ⟨a', ha', e2⟩ := hforth a ha
    have h1 := a1 b' hb'
    have h2 := b1 a' ha'
    simp only [e1, e2] at *
    omega
end Go.Proofs.Ytjmgncjadfhmcaa
