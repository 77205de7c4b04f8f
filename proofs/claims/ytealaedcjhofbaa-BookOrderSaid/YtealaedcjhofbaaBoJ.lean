/- Keys that are pairs; prices in any order, plainly. -/
import Derived.Test.YtealaedcjhofbaaBoI
import Derived.Test.YtealaedcjhofbaaAcMap
namespace Go.Proofs.Ytealaedcjhofbaa
open Go.RowKit
open Go.Maps (Keyed)

theorem lawPair : Keyed Try.prog 50 := Keyed.of_law (deep_law_laid (by kernel_rfl) (m := 2) (by omega) (of_decide_eq_true (by kernel_rfl)) (by kernel_rfl) (by kernel_rfl))
/-- a price's item and day -/
def prK (x : Pc) : Value := .agg #[.int .i64 x.it, .int .i64 x.dy]
theorem wf_am {a : Int} (h : Am a) : (Lit.int .i64 a).wf = true := WalkArith.wf_i64 (by unfold Am at h; omega)
theorem lits_int {a : Int} (h : Am a) (n : Nat) : Try.prog.keyLits (n + 1) 3 [.int .i64 a] = some [.int .i64 a] := by
  have h1 := wf_am h
  unfold Program.keyLits
  rw [Try.underlying3]
  simp [h1]
theorem lits_pair {a c : Int} (ha : Am a) (hc : Am c) (n : Nat) : ∃ l, Try.prog.keyLits (n + 1 + 1) 50 [.int .i64 a, .int .i64 c] = some l := by
  have e0 : Try.prog.cellsOf 50 = 2 := by kernel_rfl
  have e1 : Try.prog.cellsOf 3 = 1 := by kernel_rfl
  have k1 := lits_int ha n
  have k2 := lits_int hc n
  unfold Program.keyLits
  rw [Try.underlying50]
  simp [e0, e1, k1, k2, List.range, List.range.loop]
theorem size_types : ∃ n, Try.prog.types.size + 1 = n + 1 + 1 := ⟨Try.prog.types.size - 1, by have : (1 : Nat) ≤ Try.prog.types.size := of_decide_eq_true (by kernel_rfl); omega⟩
theorem ky_pair {x : Pc} (ha : Am x.it) (hc : Am x.dy) : Ky Try.prog 50 (prK x) := by
  obtain ⟨n, hs⟩ := size_types
  obtain ⟨l, hl⟩ := lits_pair ha hc n
  have hk : Try.prog.keyType 50 = true := by kernel_rfl
  have e0 : Try.prog.cellsOf 50 = 2 := by kernel_rfl
  unfold Ky prK keyOf
  rw [Try.underlying50, hs]
  simp only [hk, Value.formed, Try.underlying50, e0, Value.cells, hl]
  exact ⟨_, rfl⟩
theorem zeroBool (W : World) : (zeroValue 4).run Try.prog W = .ok (.bool false) W := by kernel_rfl

/-- may a price be set? -/
def vB (I : List Im) (x : Pc) : Bool := hasB ⟨I, []⟩ x.it && decide (1 ≤ x.dy) && decide (x.dy ≤ 1000000) && decide (1 ≤ x.n)
def Unl (x y : Pc) : Prop := ¬ (x.it = y.it ∧ x.dy = y.dy)
theorem unl_symm {x y : Pc} (h : Unl x y) : Unl y x := fun ⟨a, b⟩ => h ⟨a.symm, b.symm⟩
theorem setE_ok {I : List Im} {F : List Pc} {x : Pc} (hnt : twiB F x.it x.dy = false) (hfew : (ofIt F x.it).length < 100) : setE ⟨I, F⟩ x.it x.dy x.n = 0 ↔ vB I x = true := by
  have hh : hasB ⟨I, F⟩ x.it = hasB ⟨I, []⟩ x.it := rfl
  unfold setE vB
  rw [hh]
  show (if hasB ⟨I, []⟩ x.it = false then (5 : Int) else if x.dy < 1 ∨ 1000000 < x.dy ∨ x.n < 1 then 1 else if twiB F x.it x.dy = true then 6 else if 100 ≤ (ofIt F x.it).length then 4 else 0) = 0 ↔ _
  rw [hnt]
  by_cases q1 : hasB ⟨I, []⟩ x.it = true
  · rw [if_neg (by rw [q1]; simp), q1]
    by_cases q2 : x.dy < 1 ∨ 1000000 < x.dy ∨ x.n < 1
    · rw [if_pos q2]; simp; omega
    · rw [if_neg q2, if_neg (by simp), if_neg (by omega)]
      simp; omega
  · have q1 : hasB ⟨I, []⟩ x.it = false := by simpa using q1
    rw [if_pos q1, q1]; simp
theorem all_valid (I : List Im) (l : List Pc) (hu : l.Pairwise Unl) (hl : l.length ≤ 100) : ∀ k, k ≤ l.length → setAll ⟨I, []⟩ (l.take k) = ⟨I, (l.take k).filter (vB I)⟩
  | 0, _ => by simp [setAll]
  | k + 1, hk => by
    have ih := all_valid I l hu hl k (by omega)
    obtain ⟨x, hx⟩ : ∃ x, l[k]? = some x := ⟨l[k], List.getElem?_eq_getElem _⟩
    rw [setAll_take _ _ hx, ih, List.take_add_one, hx, List.filter_append]
    show setS ⟨I, _⟩ x.it x.dy x.n = ⟨I, _ ++ ([x].filter (vB I))⟩
    have hE : setE ⟨I, (l.take k).filter (vB I)⟩ x.it x.dy x.n = 0 ↔ vB I x = true := by
      have hnt : twiB ((l.take k).filter (vB I)) x.it x.dy = false := by
        rw [Bool.eq_false_iff]
        intro h
        obtain ⟨y, hy, e⟩ := twiB_iff.1 h
        obtain ⟨j, hj⟩ := List.getElem?_of_mem (List.mem_filter.1 hy).1
        have hjk : j < k := by
          have := (List.getElem?_eq_some_iff.1 hj).1
          rw [List.length_take] at this; omega
        rw [List.getElem?_take, if_pos hjk] at hj
        obtain ⟨h1, rfl⟩ := List.getElem?_eq_some_iff.1 hj
        obtain ⟨h2, rfl⟩ := List.getElem?_eq_some_iff.1 hx
        exact (List.pairwise_iff_getElem.1 hu) j k h1 h2 hjk e
      have hfew : (ofIt ((l.take k).filter (vB I)) x.it).length < 100 := by
        have h1 := List.length_filter_le (fun y : Pc => decide (y.it = x.it)) ((l.take k).filter (vB I))
        have h2 := List.length_filter_le (vB I) (l.take k)
        have h3 : (l.take k).length ≤ k := List.length_take_le _ _
        unfold ofIt
        omega
      exact setE_ok hnt hfew
    unfold setS
    by_cases q : vB I x = true
    · rw [if_pos (hE.2 q)]
      simp [q, setted]
    · rw [if_neg (fun z => q (hE.1 z))]
      simp [q]
/-- the last one up to a day, whichever order they stand in -/
theorem best_same {I : List Im} {L L' : List Pc} (hm : ∀ x, x ∈ L ↔ x ∈ L') (hu : ∀ x ∈ L, ∀ y ∈ L, x.it = y.it → x.dy = y.dy → x = y) (hd : ∀ x ∈ L, 1 ≤ x.dy) (i d : Int) : best ⟨I, L⟩ i d = best ⟨I, L'⟩ i d := by
  obtain ⟨a0, a1, a2⟩ := best_is ⟨I, L⟩ i d
  obtain ⟨b0, b1, b2⟩ := best_is ⟨I, L'⟩ i d
  have e0 : pri0 ⟨I, L'⟩ i = pri0 ⟨I, L⟩ i := rfl
  rcases a1 with a1 | ⟨x, hx, x1, x2, a1⟩ <;> rcases b1 with b1 | ⟨y, hy, y1, y2, b1⟩
  · rw [a1, b1, e0]
  · exfalso
    have := a2 y ((hm y).2 hy) y1 y2
    have := hd y ((hm y).2 hy)
    rw [a1] at *
    simp at *; omega
  · exfalso
    have := b2 x ((hm x).1 hx) x1 x2
    have := hd x hx
    rw [b1] at *
    simp at *; omega
  · have h1 := a2 y ((hm y).2 hy) y1 y2
    have h2 := b2 x ((hm x).1 hx) x1 x2
    rw [a1] at h1
    rw [b1] at h2
    have h1 : y.dy ≤ x.dy := h1
    have h2 : x.dy ≤ y.dy := h2
    obtain rfl := hu x hx y ((hm y).2 hy) (by omega) (by omega)
    rw [a1, b1]
theorem order_same (I : List Im) (l : List Pc) (hu : l.Pairwise Unl) (hl : l.length ≤ 100) (i d : Int) : priV (setAll ⟨I, []⟩ l) i d = priV (setAll ⟨I, []⟩ l.reverse) i d ∧ priE (setAll ⟨I, []⟩ l) i d = priE (setAll ⟨I, []⟩ l.reverse) i d := by
  have hu' : l.reverse.Pairwise Unl := List.pairwise_reverse.2 (hu.imp unl_symm)
  have h1 := all_valid I l hu hl l.length (Nat.le_refl _)
  have h2 := all_valid I l.reverse hu' (by simpa using hl) l.reverse.length (Nat.le_refl _)
  rw [List.take_length] at h1 h2
  rw [h1, h2]
  have hE : priE ⟨I, l.filter (vB I)⟩ i d = priE ⟨I, l.reverse.filter (vB I)⟩ i d := rfl
  refine ⟨?_, hE⟩
  unfold priV
  rw [hE, best_same (L := l.filter (vB I)) (L' := l.reverse.filter (vB I)) (fun x => by simp) (fun x hx y hy e1 e2 => ?_) (fun x hx => ?_)]
  · have hx' := (List.mem_filter.1 hx).1
    have hy' := (List.mem_filter.1 hy).1
    obtain ⟨a, ha⟩ := List.getElem?_of_mem hx'
    obtain ⟨b, hb⟩ := List.getElem?_of_mem hy'
    obtain ⟨ha1, rfl⟩ := List.getElem?_eq_some_iff.1 ha
    obtain ⟨hb1, rfl⟩ := List.getElem?_eq_some_iff.1 hb
    rcases Nat.lt_trichotomy a b with q | q | q
    · exact absurd ⟨e1, e2⟩ ((List.pairwise_iff_getElem.1 hu) a b ha1 hb1 q)
    · subst q; rfl
    · exact absurd ⟨e1.symm, e2.symm⟩ ((List.pairwise_iff_getElem.1 hu) b a hb1 ha1 q)
  · have := (List.mem_filter.1 hx).2
    simp [vB] at this
    exact this.1.1.2
theorem unl_snoc {l : List Pc} {k : Nat} {x : Pc} (hx : l[k]? = some x) (h : (l.take k).Pairwise Unl) (hn : ∀ y ∈ l.take k, Unl y x) : (l.take (k + 1)).Pairwise Unl := by
  rw [List.take_add_one, hx, List.pairwise_append]
  refine ⟨h, by simp, fun a ha b hb => ?_⟩
  have hb : b ∈ [x] := hb
  rw [List.mem_singleton.1 hb]; exact hn a ha
theorem prK_inj {x y : Pc} (h : ¬ Unl x y) : prK x = prK y := by
  by_cases e : x.it = y.it ∧ x.dy = y.dy
  · unfold prK; rw [e.1, e.2]
  · exact absurd e h
end Go.Proofs.Ytealaedcjhofbaa
