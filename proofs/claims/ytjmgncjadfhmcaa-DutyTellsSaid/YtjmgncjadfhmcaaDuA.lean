/- Rows of places, obligations in memory; groups, step by step, plainly. -/
import Derived.Test.YtjmgncjadfhmcaaDuOw
import Derived.Test.YtjmgncjadfhmcaaDuMc
namespace Go.Proofs.Ytjmgncjadfhmcaa
open Go.RowKit

def natV (k : Nat) : Value := .int .i64 (k : Int)
def natC (k : Nat) : List Value := [natV k]
/-- places that lie in a row -/
abbrev NsA (w : World) (a : Option Addr) (l : List Nat) : Prop := Rws natC 1 w a l
theorem nat_len (k : Nat) : (natC k).length = 1 := rfl
theorem nat_flat (l : List Nat) : l.flatMap natC = l.map natV := by
  induction l with
  | nil => rfl
  | cons x l ih => rw [List.flatMap_cons, List.map_cons, ih]; rfl
theorem ns_at {w : World} {a : Option Addr} {l : List Nat} (h : NsA w a l) {j k : Nat} (hx : l[j]? = some k) : ∃ b o, a = some ⟨b, o, none⟩ ∧ w.cell? ⟨b, o + j, none⟩ = some (.int .i64 (k : Int)) := by
  rcases h with h | ⟨b, o, e, h⟩
  · rw [h] at hx; simp at hx
  · refine ⟨b, o, e, ?_⟩
    have := h j k hx 0 _ rfl
    rwa [Nat.mul_one, Nat.add_zero] at this
/-- a row of places; rows of such -/
structure NsX where
  a : Option Addr
  cap : Nat
  l : List Nat
def NsX.val (x : NsX) : Value := .slice x.a x.l.length x.cap
def NsX.cells (x : NsX) : List Value := [x.val]
def RowsA (w : World) (a : Option Addr) (X : List NsX) : Prop := Rws NsX.cells 1 w a X ∧ ∀ x ∈ X, NsA w x.a x.l
theorem RowsA.up {w w' : World} {a : Option Addr} {X : List NsX} (h : RowsA w a X) (q : Below w.heap.size w w') : RowsA w' a X := ⟨h.1.up q, fun x hx => (h.2 x hx).up q⟩
theorem rows_at {w : World} {a : Option Addr} {X : List NsX} (h : RowsA w a X) {j : Nat} {x : NsX} (hx : X[j]? = some x) : ∃ b o, a = some ⟨b, o, none⟩ ∧ w.cell? ⟨b, o + j, none⟩ = some x.val := by
  rcases h.1 with h | ⟨b, o, e, h⟩
  · rw [h] at hx; simp at hx
  · refine ⟨b, o, e, ?_⟩
    have := h j x hx 0 _ rfl
    rwa [Nat.mul_one, Nat.add_zero] at this
/-- an obligation in memory -/
structure DuX where
  a : Option Addr
  cap : Nat
  d : Du
def DuX.cells (x : DuX) : List Value := [.slice x.a x.d.ls.length x.cap, .int .i64 x.d.al, .int .i64 x.d.un, .int .i64 x.d.me, .int .i64 x.d.fi, .int .i64 x.d.la]
def DuX.val (x : DuX) : Value := .agg #[.slice x.a x.d.ls.length x.cap, .int .i64 x.d.al, .int .i64 x.d.un, .int .i64 x.d.me, .int .i64 x.d.fi, .int .i64 x.d.la]
theorem du_len (x : DuX) : x.cells.length = 6 := rfl
def DusA (w : World) (a : Option Addr) (X : List DuX) : Prop := Rws DuX.cells 6 w a X ∧ ∀ x ∈ X, NsA w x.a x.d.ls
theorem DusA.up {w w' : World} {a : Option Addr} {X : List DuX} (h : DusA w a X) (q : Below w.heap.size w w') : DusA w' a X := ⟨h.1.up q, fun x hx => (h.2 x hx).up q⟩
theorem dus_at {w : World} {a : Option Addr} {X : List DuX} (h : DusA w a X) {j : Nat} {x : DuX} (hx : X[j]? = some x) : ∃ b o, a = some ⟨b, o, none⟩ ∧ w.cell? ⟨b, o + j * 6, none⟩ = some (.slice x.a x.d.ls.length x.cap) ∧ w.cell? ⟨b, o + j * 6 + 1, none⟩ = some (.int .i64 x.d.al) ∧ w.cell? ⟨b, o + j * 6 + 2, none⟩ = some (.int .i64 x.d.un) ∧ w.cell? ⟨b, o + j * 6 + 3, none⟩ = some (.int .i64 x.d.me) ∧ w.cell? ⟨b, o + j * 6 + 4, none⟩ = some (.int .i64 x.d.fi) ∧ w.cell? ⟨b, o + j * 6 + 5, none⟩ = some (.int .i64 x.d.la) ∧ NsA w x.a x.d.ls := by
  rcases h with ⟨h1 | ⟨b, o, e, h1⟩, h2⟩
  · rw [h1] at hx; simp at hx
  · exact ⟨b, o, e, h1 j x hx 0 _ rfl, h1 j x hx 1 _ rfl, h1 j x hx 2 _ rfl, h1 j x hx 3 _ rfl, h1 j x hx 4 _ rfl, h1 j x hx 5 _ rfl, h2 x (List.mem_of_getElem? hx)⟩

section
variable {κ : Type} [DecidableEq κ] {K : Nat → κ}
theorem mems_step (k i : Nat) : mems K (k + 1) i = mems K k i ++ if K k = K i then [k] else [] := by
  unfold mems
  rw [List.range_succ, List.filter_append]
  by_cases q : K k = K i <;> simp [q]
theorem fsts_step (k : Nat) : fsts K (k + 1) = fsts K k ++ if isFst K k = true then [k] else [] := by
  unfold fsts
  rw [List.range_succ, List.filter_append]
  by_cases q : isFst K k = true
  · simp [q]
  · rw [if_neg q]; simp [q]
/-- the first place of a key, or how many there are -/
def idxK (q : κ) : List κ → Nat
  | [] => 0
  | x :: l => if x = q then 0 else idxK q l + 1
theorem idxK_none {q : κ} : ∀ {l : List κ}, q ∉ l → idxK q l = l.length
  | [], _ => rfl
  | x :: l, h => by
    have h1 : ¬ x = q := fun e => h (by simp [e])
    unfold idxK
    rw [if_neg h1, idxK_none fun z => h (List.mem_cons_of_mem _ z)]; rfl
theorem idxK_some {q : κ} : ∀ {l : List κ}, q ∈ l → l[idxK q l]? = some q
  | [], h => by cases h
  | x :: l, h => by
    unfold idxK
    by_cases e : x = q
    · rw [if_pos e, e]; rfl
    · rw [if_neg e]
      rcases List.mem_cons.1 h with z | z
      · exact absurd z.symm e
      · simpa using idxK_some z
theorem idxK_at {q : κ} : ∀ {l : List κ} {k : Nat}, l[k]? = some q → (∀ j x, j < k → l[j]? = some x → x ≠ q) → idxK q l = k
  | [], k, h, _ => by simp at h
  | x :: l, 0, h, _ => by
    have : x = q := by simpa using h
    unfold idxK; rw [if_pos this]
  | x :: l, k + 1, h, hl => by
    unfold idxK
    rw [if_neg (hl 0 x (by omega) rfl), idxK_at (k := k) (by simpa using h) fun j y hj hy => hl (j + 1) y (by omega) (by simpa using hy)]
theorem idxK_all {q : κ} {l : List κ} (h : ∀ j x, j < l.length → l[j]? = some x → x ≠ q) : idxK q l = l.length := idxK_none fun hm => by
  obtain ⟨j, hj⟩ := List.getElem?_of_mem hm
  exact h j q (List.getElem?_eq_some_iff.1 hj).1 hj rfl
/-- the keys so far, and the places of each -/
def keysTo (K : Nat → κ) (k : Nat) : List κ := (fsts K k).map K
def groups (K : Nat → κ) (k : Nat) : List (List Nat) := (fsts K k).map (mems K k)
theorem groups_len (k : Nat) : (groups K k).length = (keysTo K k).length := by unfold groups keysTo; simp
theorem idx_new {k : Nat} (h : isFst K k = true) : idxK (K k) (keysTo K k) = (keysTo K k).length := by
  refine idxK_none fun hm => ?_
  obtain ⟨i, hi, e⟩ := List.mem_map.1 hm
  exact isFst_iff.1 h i (mem_fsts.1 hi).1 e
theorem keys_new {k : Nat} (h : isFst K k = true) : keysTo K (k + 1) = keysTo K k ++ [K k] := by
  unfold keysTo; rw [fsts_step, if_pos h, List.map_append]; rfl
theorem keys_old {k : Nat} (h : ¬ isFst K k = true) : keysTo K (k + 1) = keysTo K k := by
  unfold keysTo; rw [fsts_step, if_neg h, List.append_nil]
theorem groups_new {k : Nat} (h : isFst K k = true) : groups K (k + 1) = groups K k ++ [[k]] := by
  have h0 := isFst_iff.1 h
  unfold groups
  rw [fsts_step, if_pos h, List.map_append]
  congr 1
  · apply List.map_congr_left
    intro i hi
    rw [mems_step, if_neg (fun e => h0 i (mem_fsts.1 hi).1 e.symm), List.append_nil]
  · rw [List.map_singleton, mems_step, if_pos rfl]
    have hnil : mems K k k = [] := List.eq_nil_iff_forall_not_mem.2 fun j hj => h0 j (mem_mems.1 hj).1 (mem_mems.1 hj).2
    rw [hnil]; rfl
theorem idx_old {k : Nat} (h : ¬ isFst K k = true) : ∃ t i, idxK (K k) (keysTo K k) = t ∧ t < (keysTo K k).length ∧ (fsts K k)[t]? = some i ∧ K i = K k := by
  have hm : K k ∈ keysTo K k := by
    obtain ⟨i, h1, h2, h3⟩ := fst_of (K := K) k
    have hne : i ≠ k := fun e => h (isFst_iff.2 (by rw [← e]; exact h3))
    exact List.mem_map.2 ⟨i, mem_fsts.2 ⟨by omega, h3⟩, h2⟩
  have hs := idxK_some hm
  have hs2 := hs
  unfold keysTo at hs2
  rw [List.getElem?_map] at hs2
  obtain ⟨i, hi, e⟩ := Option.map_eq_some_iff.1 hs2
  exact ⟨_, i, rfl, (List.getElem?_eq_some_iff.1 hs).1, hi, e⟩
theorem groups_old {k t i : Nat} (h : ¬ isFst K k = true) (ht : (fsts K k)[t]? = some i) (e : K i = K k) : groups K (k + 1) = (groups K k).set t (mems K k i ++ [k]) := by
  unfold groups
  rw [fsts_step, if_neg h, List.append_nil]
  have hi := List.mem_of_getElem? ht
  apply List.ext_getElem?
  intro j
  rw [List.getElem?_set]
  by_cases q : t = j
  · subst q
    have hlt := (List.getElem?_eq_some_iff.1 ht).1
    rw [if_pos rfl, if_pos (by simpa using hlt), List.getElem?_map, ht, Option.map_some, mems_step, if_pos e.symm]
  · rw [if_neg q, List.getElem?_map, List.getElem?_map]
    cases hj : (fsts K k)[j]? with
    | none => rfl
    | some i2 =>
      rw [Option.map_some, Option.map_some, mems_step, if_neg, List.append_nil]
      intro z
      have e2 := fst_one hi (List.mem_of_getElem? hj) (e.trans z)
      obtain ⟨h1, h1'⟩ := List.getElem?_eq_some_iff.1 ht
      obtain ⟨h2, h2'⟩ := List.getElem?_eq_some_iff.1 hj
      have hn : (fsts K k).Pairwise (· < ·) := fsts_asc
      rw [List.pairwise_iff_getElem] at hn
      rcases Nat.lt_or_gt_of_ne q with z | z
      · have := hn t j h1 h2 z; omega
      · have := hn j t h2 h1 z; omega
end
end Go.Proofs.Ytjmgncjadfhmcaa
