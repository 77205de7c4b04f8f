/- A number within bounds. -/
import Derived.Test.YtobdcogaphkogaaB
namespace Go.Proofs.Ytobdcogaphkogaa
open Go.RowKit
def clampV (n a b : Int) : Int := if n < a then a else if b < n then b else n

set_option maxHeartbeats 400000 in
theorem clamp_any (n a b : Int) (w : World) :
    Calls Try.prog 50 #[.int .i64 n, .int .i64 a, .int .i64 b] w fun e w' =>
      e = .returned (.int .i64 (clampV n a b)) ∧ w = w' := by
  by_cases h : n < a
  · have e : clampV n a b = a := by simp [clampV, h]
    rw [e]; clear e
    go_enter Try.func50, Try.ntmps50
    go_wp2
    go_ret
    exact ⟨rfl, rfl⟩
  · by_cases g : b < n
    · have e : clampV n a b = b := by simp [clampV, h, g]
      rw [e]; clear e
      go_enter Try.func50, Try.ntmps50
      go_wp2
      go_ret
      exact ⟨rfl, rfl⟩
    · have e : clampV n a b = n := by simp [clampV, h, g]
      rw [e]; clear e
      go_enter Try.func50, Try.ntmps50
      go_wp2
      go_ret
      exact ⟨rfl, rfl⟩
end Go.Proofs.Ytobdcogaphkogaa
