/- When there are steps. -/
import Derived.Test.YtiiamiaebhkhaaaPoSteps
namespace Go.Proofs.Ytiiamiaebhkhaaa
open Go.RowKit
variable {whole : Int} {f : Nat → Int} {n : Nat}

theorem stepE_ok (h : stepE f whole n = 0) : n ≤ 64 ∧ 1 ≤ whole ∧ RiseTo f whole n := by
  unfold stepE at h
  by_cases h1 : 64 < n
  · rw [if_pos h1] at h; omega
  · rw [if_neg h1] at h
    by_cases h2 : whole < 1 ∨ ¬ RiseTo f whole n
    · rw [if_pos h2] at h; omega
    · refine ⟨by omega, by omega, ?_⟩
      apply Classical.byContradiction; intro q; exact h2 (.inr q)
theorem stepE_of (h1 : n ≤ 64) (h2 : 1 ≤ whole) (h3 : RiseTo f whole n) : stepE f whole n = 0 := by
  unfold stepE
  rw [if_neg (by omega), if_neg (by rintro (q | q); omega; exact q h3)]
end Go.Proofs.Ytiiamiaebhkhaaa
