/- net: what is to be proved of the program. -/
import Derived.Laws.AppendOwn
import Derived.Test.YtiaocahcdbikhaaNtMath
import Derived.Test.YtiaocahcdbikhaaAcP
namespace Go.Proofs.Ytiaocahcdbikhaa
open Go.RowKit

def sidL (b r : Int) : Int := if sidE b r = 0 then liaV b r else 0
def sidA (b r : Int) : Int := if sidE b r = 0 then assV b r else 0
/-- postings, or why there are none -/
def NtR (w : World) (E : Int) (L : List Po) (e : Ending) (w' : World) : Prop :=
  Below w.heap.size w w' ∧ ((E ≠ 0 ∧ e = .returned (.tuple #[.slice none 0 0, .int .i64 E])) ∨ (E = 0 ∧ ∃ a c, e = .returned (.tuple #[.slice a L.length c, .int .i64 0]) ∧ w'.ownsRow w.heap.size 35 3 (.slice a L.length c) L.length (flat L)))
structure NtK : Prop where
  sides : ∀ (w : World) (b r : Int), Am b → Am r → Calls Try.prog 8 #[.int .i64 b, .int .i64 r] w fun e w' => e = .returned (.tuple #[.int .i64 (sidL b r), .int .i64 (sidA b r), .int .i64 (sidE b r)]) ∧ Below w.heap.size w w'
  bill : ∀ (w : World) (c b r x : Int), Am b → Am r → Am x → Calls Try.prog 10 #[.int .i64 c, .int .i64 b, .int .i64 r, .int .i64 x] w (NtR w (ntE c b r x 0) (ntL c b r x 0))
  earn : ∀ (w : World) (c b r y : Int), Am b → Am r → Am y → Calls Try.prog 12 #[.int .i64 c, .int .i64 b, .int .i64 r, .int .i64 y] w (NtR w (ntE c b r 0 y) (ntL c b r 0 y))
/-- postings that are told, as they lie -/
def NtTd (w : World) (L : List Po) (e : Ending) (w' : World) : Prop := ∃ a c, e = .returned (.tuple #[.slice a L.length c, .int .i64 0]) ∧ PsA w' a L ∧ Below w.heap.size w w'
theorem NtR.told {w w' : World} {L : List Po} {e : Ending} (h : NtR w 0 L e w') : NtTd w L e w' := by
  obtain ⟨hb, ⟨q, _⟩ | ⟨_, a, c, he, ho⟩⟩ := h
  · exact absurd rfl q
  · obtain ⟨a', c', q, hp, _⟩ := own_psa ho
    injection q with q1 q2 q3
    subst q1; subst q3
    exact ⟨a, c, he, hp, hb⟩
end Go.Proofs.Ytiaocahcdbikhaa
