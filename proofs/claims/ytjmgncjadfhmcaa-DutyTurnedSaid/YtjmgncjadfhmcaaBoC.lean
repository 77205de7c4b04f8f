/- Set. -/
import Derived.Test.YtjmgncjadfhmcaaBoB
namespace Go.Proofs.Ytjmgncjadfhmcaa
open Go.RowKit

/-- what Set answers, and leaves -/
def SetR (w : World) (p r : Nat) (S : Bs) (i d n : Int) (e : Ending) (w' : World) : Prop := e = .returned (.int .i64 (setE S i d n)) ∧ Bk w' p r (setS S i d n) ∧ w.grownBy w' (some r)
section
variable {w : World} {p r : Nat} {S : Bs}
theorem setR_same {i d n E : Int} {w' : World} (h : Bk w p r S) (hE : setE S i d n = E) (h0 : E ≠ 0) (hb : Below w.heap.size w w') : SetR w p r S i d n (.returned (.int .i64 E)) w' := by
  refine ⟨by rw [hE], ?_, grown_of hb _⟩
  unfold setS
  rw [if_neg (by rw [hE]; exact h0)]
  exact h.up hb
/-- an entry's cells -/
theorem pra_at {w : World} {b o : Nat} {R : List (Int × Int)} (h : PrA w (some ⟨b, o, none⟩) R) {j : Nat} {e : Int × Int} (he : R[j]? = some e) : w.cell? ⟨b, o + j * 2, none⟩ = some (.int .i64 e.1) ∧ w.cell? ⟨b, o + j * 2 + 1, none⟩ = some (.int .i64 e.2) := by
  rcases h with z | ⟨b', o', z, hz⟩
  · rw [z] at he; simp at he
  · injection z with z
    injection z with z1 z2
    subst z1; subst z2
    exact ⟨hz j e he 0 _ rfl, hz j e he 1 _ rfl⟩
end
end Go.Proofs.Ytjmgncjadfhmcaa
