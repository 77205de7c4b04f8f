/- Post. -/
import Derived.Test.YtiaocahcdbikhaaAcS
namespace Go.Proofs.Ytiaocahcdbikhaa
open Go.RowKit

section
variable {P : Program} {ops : Array Oper} {o : Oper} {a : Act} {w : World} {K : Act → World → Prop} {Q : Exit → Act → World → Prop} {E : Prop}
end

section
variable {w w' : World} {p m : Nat} {S : Ld} {f : Int → Int → Int → Int} {ve : Value} {vs : List Value} {rows : List (Int × Int × Nat)} {O : Nat → Prop}
theorem In9.mono {O' : Nat → Prop} (h : In9 O p m ve vs rows) (hs : ∀ b, O b → O' b) : In9 O' p m ve vs rows :=
  ⟨hs _ h.p, hs _ h.m, fun g hg => hs _ (h.ve g hg), fun v hv g hg => hs _ (h.vs v hv g hg), fun x hx => hs _ (h.rows x hx)⟩
/-- an address in none of these, if anything lies there -/
def PsO (O : Nat → Prop) (a : Option Addr) (ps : List Po) : Prop := ps ≠ [] → ∀ ad, a = some ad → ¬ O ad.block
theorem PsA.keep {a : Option Addr} {ps : List Po} (h : PsA w a ps) (hk : Kp O w w') (hO : PsO O a ps) : PsA w' a ps := by
  rcases h with h | ⟨b, o, rfl, h⟩
  · exact .inl h
  · refine .inr ⟨b, o, rfl, fun i x hx => ?_⟩
    have hb := hO (fun e => by rw [e] at hx; simp at hx) _ rfl
    have one : ∀ {j : Nat} {v : Value}, w.cell? ⟨b, j, none⟩ = some v → w'.cell? ⟨b, j, none⟩ = some v := fun {j v} hc => by
      have hl := World.block_lt_of_cell? (a := ⟨b, j, none⟩) _ hc
      rw [World.cell?_of_block (w := w) (hk.block b hl hb)]; exact hc
    exact ⟨one (h i x hx).1, one (h i x hx).2.1, one (h i x hx).2.2⟩

end
end Go.Proofs.Ytiaocahcdbikhaa

namespace Go.Proofs.Ytiaocahcdbikhaa
open Go.RowKit

section
variable {w w' : World} {p m : Nat} {S : Ld} {f : Int → Int → Int → Int} {ve : Value} {vs : List Value} {rows : List (Int × Int × Nat)} {O : Nat → Prop}
/-- behind Clone, in the last region -/
def ClnS (W : World) (p : Nat) (ve : Value) (ps : List Po) (v : Value) (w1 : World) : Prop := w1.ownsRow W.heap.size 35 3 v ps.length (flat ps) ∧ Below W.heap.size W w1 ∧ w1.cell? ⟨p, 2, none⟩ = some ve
end
end Go.Proofs.Ytiaocahcdbikhaa

namespace Go.Proofs.Ytiaocahcdbikhaa
open Go.RowKit

def negO (x : Po) : Po := ⟨x.a, x.c, -x.m⟩
/-- the first ones of the other sign -/
def negTo (j : Nat) (ps : List Po) : List Po := (ps.take j).map negO ++ ps.drop j
section
variable {w w' : World}
def OppR (w : World) (ps : List Po) (e : Ending) (w' : World) : Prop :=
  ((leastB ps = true ∧ e = .returned (.tuple #[.slice none 0 0, .int .i64 3])) ∨
   (leastB ps = false ∧ ∃ v, e = .returned (.tuple #[v, .int .i64 0]) ∧ w'.ownsRow w.heap.size 35 3 v ps.length (flat (negP ps)))) ∧ Below w.heap.size w w'
end
end Go.Proofs.Ytiaocahcdbikhaa
