/- move: a movement laid. -/
import Derived.Deep.OwnRows
import Derived.Test.YtiaocahcdbikhaaAcP
import Derived.Test.YtiaocahcdbikhaaKp
namespace Go.Proofs.Ytiaocahcdbikhaa
open Go.RowKit

def updF (f : Int → Int → Int → Int) (a c k x : Int) : Int → Int → Int → Int := fun a' c' q => if a' = a ∧ c' = c ∧ q = k then x else f a' c' q
section
variable {w w' : World} {p m : Nat} {S : Ld} {f : Int → Int → Int → Int} {ve : Value} {vs : List Value} {rows : List (Int × Int × Nat)} {O : Nat → Prop}
end
end Go.Proofs.Ytiaocahcdbikhaa

namespace Go.Proofs.Ytiaocahcdbikhaa
open Go.RowKit

section
variable {w w' : World} {p m : Nat} {S : Ld} {f : Int → Int → Int → Int} {ve : Value} {vs : List Value} {rows : List (Int × Int × Nat)} {O : Nat → Prop}
/-- cells that a region of move reads -/
def Mc4 (p X : Nat) (a c : Int) (n : Nat) (m : Nat) (w : World) : Prop := w.cell? ⟨p, 3, none⟩ = some (.map (some m)) ∧ w.cell? ⟨X, 0, none⟩ = some (.int .i64 a) ∧ w.cell? ⟨X, 1, none⟩ = some (.int .i64 c) ∧ w.cell? ⟨p, 0, none⟩ = some (.int .i64 (n : Int))
theorem Mc4.set {p X n m : Nat} {a c : Int} (h : Mc4 p X a c n m w) {g k : Nat} {v : Value} (h1 : p ≠ g) (h2 : X ≠ g) : Mc4 p X a c n m (w.setCell ⟨g, k, none⟩ v) :=
  ⟨cset h.1 (.inl h1), cset h.2.1 (.inl h2), cset h.2.2.1 (.inl h2), cset h.2.2.2 (.inl h1)⟩
theorem Mc4.keep {p X n m : Nat} {a c : Int} {row : Option Nat} (h : Mc4 p X a c n m w) (g : w.grownBy w' row) (h1 : some p ≠ row) (h2 : some X ≠ row) : Mc4 p X a c n m w' :=
  ⟨g.cell h.1 h1, g.cell h.2.1 h2, g.cell h.2.2.1 h2, g.cell h.2.2.2 h1⟩

end
end Go.Proofs.Ytiaocahcdbikhaa

namespace Go.Proofs.Ytiaocahcdbikhaa
open Go.RowKit

section
variable {w w' : World} {p m : Nat} {S : Ld} {f : Int → Int → Int → Int} {ve : Value} {vs : List Value} {rows : List (Int × Int × Nat)} {O : Nat → Prop}
end
end Go.Proofs.Ytiaocahcdbikhaa
