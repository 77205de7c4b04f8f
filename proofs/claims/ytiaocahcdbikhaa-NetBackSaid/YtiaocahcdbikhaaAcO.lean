/- reach, balances. -/
import Derived.Test.YtiaocahcdbikhaaAcM
namespace Go.Proofs.Ytiaocahcdbikhaa
open Go.RowKit

/-- the lowest and the highest of a row of numbers -/
structure LoHi (B : Int → Int) (k j : Nat) (lo hi : Int) : Prop where
  bd : ∀ q : Nat, k ≤ q → q ≤ j → lo ≤ B q ∧ B q ≤ hi
  lo : ∃ q : Nat, k ≤ q ∧ q ≤ j ∧ B q = lo
  hi : ∃ q : Nat, k ≤ q ∧ q ≤ j ∧ B q = hi
theorem LoHi.one (B : Int → Int) (k : Nat) : LoHi B k k (B k) (B k) :=
  ⟨fun q h1 h2 => by obtain rfl : q = k := by omega
                     exact ⟨Int.le_refl _, Int.le_refl _⟩, ⟨k, by omega, by omega, rfl⟩, ⟨k, by omega, by omega, rfl⟩⟩
theorem LoHi.step {B : Int → Int} {k j : Nat} {lo hi : Int} (h : LoHi B k j lo hi) (hkj : k ≤ j) : LoHi B k (j + 1) (min lo (B ((j + 1 : Nat) : Int))) (max hi (B ((j + 1 : Nat) : Int))) := by
  refine ⟨fun q h1 h2 => ?_, ?_, ?_⟩
  · by_cases e : q = j + 1
    · subst e; omega
    · have := h.bd q h1 (by omega); omega
  · by_cases e : lo ≤ B ((j + 1 : Nat) : Int)
    · obtain ⟨q, h1, h2, h3⟩ := h.lo
      exact ⟨q, h1, by omega, by rw [h3]; omega⟩
    · exact ⟨j + 1, by omega, by omega, by omega⟩
  · by_cases e : B ((j + 1 : Nat) : Int) ≤ hi
    · obtain ⟨q, h1, h2, h3⟩ := h.hi
      exact ⟨q, h1, by omega, by rw [h3]; omega⟩
    · exact ⟨j + 1, by omega, by omega, by omega⟩

section
variable {w w' : World} {p m : Nat} {S : Ld} {O : Nat → Prop}
abbrev Bl (S : Ld) (a c : Int) (q : Int) : Int := rng a c 0 q S.L

/-- the three cells that reach reads first -/
def Rc3 (p X : Nat) (a c : Int) (m : Nat) (w : World) : Prop := w.cell? ⟨p, 3, none⟩ = some (.map (some m)) ∧ w.cell? ⟨X, 0, none⟩ = some (.int .i64 a) ∧ w.cell? ⟨X, 1, none⟩ = some (.int .i64 c)
/-- do the balances through a period, and through each behind it, stay amounts with so much more? -/
def resB (S : Ld) (a c : Int) (k : Nat) (x : Int) : Bool := (List.range S.n).all fun q => !decide ((k : Int) ≤ (q : Int)) || amB (Bl S a c q + x)
end
end Go.Proofs.Ytiaocahcdbikhaa

namespace Go.Proofs.Ytiaocahcdbikhaa
open Go.RowKit

def okP (S : Ld) (k : Nat) (ps : List Po) (a c : Int) : Bool := amB (rng a c k k S.L + sumP a c ps) && resB S a c k (sumP a c ps)
/-- what a movement is with postings more -/
abbrev mvA (S : Ld) (k : Nat) (ps : List Po) (a c : Int) : Int := rng a c k k S.L + sumP a c ps
/-- a map of movements as they are with postings more -/
structure Aft (S : Ld) (k : Nat) (ps : List Po) (l : List (Value × Value)) : Prop where
  of : ∀ y ∈ l, ∃ x ∈ ps, y = (plV x.a x.c, .int .i64 (mvA S k ps x.a x.c))
  all : ∀ x ∈ ps, (plV x.a x.c, .int .i64 (mvA S k ps x.a x.c)) ∈ l

section
variable {w w' : World} {p m : Nat} {S : Ld} {O : Nat → Prop}
end
end Go.Proofs.Ytiaocahcdbikhaa
