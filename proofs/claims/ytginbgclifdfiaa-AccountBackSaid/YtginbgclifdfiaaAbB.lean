/- What the laws lean on, plainly: operations change nothing where they have an error; totals are together 0. -/
import Derived.Test.YtginbgclifdfiaaAbA
namespace Go.Proofs.Ytginbgclifdfiaa
open Go.RowKit

theorem opS_n (S : Ld) (x : Oq) : (opS S x).n = S.n := by
  unfold opS
  split
  · unfold postS; split <;> rfl
  · split
    · unfold revS
      split
      · split <;> rfl
      · rfl
    · unfold cloS; split <;> rfl
theorem opS_same {S : Ld} {x : Oq} (h : opE S x ≠ 0) : opS S x = S := by
  unfold opE at h
  unfold opS
  by_cases h0 : x.d = 0
  · rw [if_pos h0] at h ⊢
    unfold postS; rw [if_neg h]
  · rw [if_neg h0] at h ⊢
    by_cases h1 : x.d = 1
    · rw [if_pos h1] at h ⊢
      unfold revS; rw [if_neg h]
    · rw [if_neg h1] at h ⊢
      unfold cloS; rw [if_neg h]
theorem sumTo_add (f g : Nat → Int) : ∀ k, sumTo (fun i => f i + g i) k = sumTo f k + sumTo g k
  | 0 => rfl
  | k + 1 => by simp only [sumTo]; rw [sumTo_add f g k]; omega
theorem sumTo_zero : ∀ k, sumTo (fun _ => 0) k = 0
  | 0 => rfl
  | k + 1 => by simp only [sumTo, sumTo_zero k]; rfl
/-- all totals are together 0 -/
theorem totals_zero {S : Ld} (F : Fine S) (q : Int) : totX S 0 q + totX S 1 q + totX S 2 q + totX S 3 q = 0 := by
  unfold totX
  rw [← sumTo_add, ← sumTo_add, ← sumTo_add]
  rw [sumTo_congr (g := fun _ => 0) 40 (fun i _ => four_rng S.n i 0 q S.L F.ok)]
  exact sumTo_zero 40
theorem bals_zero {S : Ld} (F : Fine S) (c q : Int) : balV S 0 c q + balV S 1 c q + balV S 2 c q + balV S 3 c q = 0 := by
  unfold balV
  split
  · rfl
  · exact four_rng S.n c 0 q S.L F.ok

/-- two rows of a call's own, apart -/
structure Two9 (B : Nat) (w : World) (v1 : Value) (z1 : List Int) (v2 : Value) (z2 : List Int) : Prop where
  one : Am1 w B v1 z1
  two : Am1 w B v2 z2
  ne : v1.ownBlock = none ∨ v1.ownBlock ≠ v2.ownBlock
section
variable {B : Nat} {w w' : World} {v1 v2 v' : Value} {z1 z2 z : List Int}
theorem Two9.empty (w : World) (B : Nat) : Two9 B w (.slice none 0 0) [] (.slice none 0 0) [] := ⟨Am1.empty _ _, Am1.empty _ _, .inl rfl⟩
theorem Two9.up (h : Two9 B w v1 z1 v2 z2) (q : Below w.heap.size w w') : Two9 B w' v1 z1 v2 z2 := ⟨h.one.up q, h.two.up q, h.ne⟩
theorem Two9.app1 (h : Two9 B w v1 z1 v2 z2) (a : AppS w B v1 z v' w') : Two9 B w' v' z v2 z2 := by
  obtain ⟨a1, a2, a3⟩ := a
  have hne : v2.ownBlock = none ∨ v2.ownBlock ≠ v1.ownBlock := by
    rcases h.ne with e | e
    · cases q : v2.ownBlock with
      | none => exact .inl rfl
      | some g => refine .inr ?_; rw [e]; simp
    · exact .inr fun q => e q.symm
  refine ⟨a1, h.two.keep a2 hne, ?_⟩
  rcases a3 with a3 | ⟨i, a3, hi⟩
  · rw [a3]; exact h.ne
  · refine .inr fun e => ?_
    rw [a3] at e
    have := (h.two.lt e.symm).2
    omega
theorem Two9.app2 (h : Two9 B w v1 z1 v2 z2) (a : AppS w B v2 z v' w') : Two9 B w' v1 z1 v' z := by
  obtain ⟨a1, a2, a3⟩ := a
  refine ⟨h.one.keep a2 h.ne, a1, ?_⟩
  cases q : v1.ownBlock with
  | none => exact .inl rfl
  | some g =>
    refine .inr ?_
    rcases a3 with a3 | ⟨i, a3, hi⟩
    · rw [a3, ← q]
      rcases h.ne with e | e
      · rw [q] at e; cases e
      · exact e
    · rw [a3]
      intro e
      injection e with e
      have := (h.one.lt q).2
      omega
end
end Go.Proofs.Ytginbgclifdfiaa
