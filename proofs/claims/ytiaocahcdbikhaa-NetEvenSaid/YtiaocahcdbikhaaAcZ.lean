/- Operations: do, large. -/
import Derived.Test.YtiaocahcdbikhaaAcY
namespace Go.Proofs.Ytiaocahcdbikhaa
open Go.RowKit

/-- an operation -/
structure Oq where
  d : Int
  q : Int
  i : Int
  a : Option Addr
  cap : Nat
  ps : List Po
def Oq.v (x : Oq) : Value := .slice x.a x.ps.length x.cap
def Oq.cells (x : Oq) : Array Value := #[.int .i64 x.d, .int .i64 x.q, .int .i64 x.i, x.v]
def OpA (w : World) (x : Oq) : Prop := PsA w x.a x.ps ∧ Ams x.ps
def OpsA (w : World) (a : Option Addr) (l : List Oq) : Prop :=
  (∀ x ∈ l, OpA w x) ∧ (l = [] ∨ ∃ b o, a = some ⟨b, o, none⟩ ∧ ∀ i x, l[i]? = some x →
    w.cell? ⟨b, o + i * 4, none⟩ = some (.int .i64 x.d) ∧ w.cell? ⟨b, o + i * 4 + 1, none⟩ = some (.int .i64 x.q) ∧ w.cell? ⟨b, o + i * 4 + 2, none⟩ = some (.int .i64 x.i) ∧ w.cell? ⟨b, o + i * 4 + 3, none⟩ = some x.v)
def opE (S : Ld) (x : Oq) : Int := if x.d = 0 then postE S x.q x.ps else if x.d = 1 then revE S x.i x.q else cloE S x.q
def opN (S : Ld) (x : Oq) : Int := if x.d = 0 then postN S x.q x.ps else if x.d = 1 then revN S x.i x.q else 0
def opS (S : Ld) (x : Oq) : Ld := if x.d = 0 then postS S x.q x.ps else if x.d = 1 then revS S x.i x.q else cloS S x.q
section
variable {w w' : World} {p m : Nat} {S : Ld} {O : Nat → Prop}
theorem OpA.up {x : Oq} (h : OpA w x) (q : Below w.heap.size w w') : OpA w' x := ⟨h.1.up q, h.2⟩
theorem OpsA.up {a : Option Addr} {l : List Oq} (h : OpsA w a l) (q : Below w.heap.size w w') : OpsA w' a l := by
  refine ⟨fun x hx => (h.1 x hx).up q, ?_⟩
  rcases h.2 with h | ⟨b, o, e, h⟩
  · exact .inl h
  · exact .inr ⟨b, o, e, fun i x hx => ⟨kcell q (h i x hx).1, kcell q (h i x hx).2.1, kcell q (h i x hx).2.2.1, kcell q (h i x hx).2.2.2⟩⟩
def largeB (n : Int) (l : List Oq) : Bool := (l.any fun x => decide (40 < x.ps.length)) || decide (24 < l.length) || (decide (12 < n) && decide (n ≤ 240))
end
end Go.Proofs.Ytiaocahcdbikhaa
