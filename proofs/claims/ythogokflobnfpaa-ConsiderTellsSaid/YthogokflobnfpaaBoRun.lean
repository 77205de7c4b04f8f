/- An append in a region, and in a walk, by what it gives; Clone of items; put. -/
import Derived.Test.YthogokflobnfpaaBoA
import Derived.Deep.RegionLaw
import Derived.Laws.Rows
import Derived.Maps.AppendAt
import Derived.Lib.AppendZeros
namespace Go.Proofs.Ythogokflobnfpaa
open Go.RowKit

section
variable {P : Program} {ops : Array Oper} {o : Oper} {a : Act} {w : World} {K : Act → World → Prop} {Q : Exit → Act → World → Prop} {E : Prop}
/-- an append in a region, by what it gives -/
theorem step_run (hgd : o.guard = none) (s x : Operand) (t : TypeId) (ho : o.op = .call { callee := .builtin .append, args := #[s, x], argTypes := #[t, t] }) (vs vx : Value) (hs : a.eval s = vs) (hx : a.eval x = vx)
    {S : Value → World → Prop} (hr : ∃ v' w', (Builtin.append_ #[t, t] o.type #[vs, vx]).run P w = .ok v' w' ∧ S v' w') (h : ∀ v' w', S v' w' → K (a.put o.dst v') w') :
    if Region.wanted o (yielded ops a.tmps) = true then Oper.wp P o a w K Q else E := by
  have hw : Region.wanted o (yielded ops a.tmps) = true := by simp [Region.wanted, hgd]
  rw [if_pos hw]
  obtain ⟨v', w', hr, hS⟩ := hr
  exact Lib.wp_append_run w s x t t ho vs vx hs hx v' w' hr (h v' w' hS)
end
/-- an append in a walk, by what it gives -/
theorem wpList_run {P : Program} {w : World} {ops : Array Oper} {rest : List Oper} {o : Oper} {a : Act} {Q : Exit → Act → World → Prop} (hgd : o.guard = none) (s x : Operand) (t : TypeId)
    (ho : o.op = .call { callee := .builtin .append, args := #[s, x], argTypes := #[t, t] }) (vs vx : Value) (hs : a.eval s = vs) (hx : a.eval x = vx)
    {S : Value → World → Prop} (hr : ∃ v' w', (Builtin.append_ #[t, t] o.type #[vs, vx]).run P w = .ok v' w' ∧ S v' w') (h : ∀ v' w', S v' w' → wpList P ops Q rest (a.put o.dst v') w') : wpList P ops Q (o :: rest) a w := by
  obtain ⟨v', w', hr, hS⟩ := hr
  exact wpList_plain hgd fun _ hK => Lib.wp_append_run w s x t t ho vs vx hs hx v' w' hr (hK _ _ (h v' w' hS))
theorem at_w {P : Program} {ops : Array Oper} {o : Oper} {a : Act} {K : Act → World → Prop} {Q : Exit → Act → World → Prop} {E : Prop} (w : World) (h : if Region.wanted o (yielded ops a.tmps) = true then Oper.wp P o a w K Q else E) : if Region.wanted o (yielded ops a.tmps) = true then Oper.wp P o a w K Q else E := h
theorem addr_off (b off k : Nat) : (⟨b, off, none⟩ : Addr).add k = ⟨b, off + k, none⟩ := by simp [Addr.add]

/-- items that were copied -/
def ClnR (w : World) (I : List Im) (v : Value) (w' : World) : Prop := ∃ a cap, v = .slice a I.length cap ∧ ItA w' a I ∧ Below w.heap.size w w'
theorem Rws.take {α : Type} {c : α → List Value} {z : Nat} {w : World} {a : Option Addr} {l : List α} (h : Rws c z w a l) (k : Nat) : Rws c z w a (l.take k) := by
  rcases h with h | ⟨b, o, e, h⟩
  · exact .inl (by rw [h]; simp)
  · refine .inr ⟨b, o, e, fun i x hx j v hv => h i x ?_ j v hv⟩
    rw [List.getElem?_take] at hx
    split at hx
    · exact hx
    · cases hx
theorem Rws.drop {α : Type} {c : α → List Value} {z : Nat} {w : World} {b o : Nat} {l : List α} (h : Rws c z w (some ⟨b, o, none⟩) l) (k : Nat) : Rws c z w (some ⟨b, o + k * z, none⟩) (l.drop k) := by
  rcases h with h | ⟨b', o', e, h⟩
  · exact .inl (by rw [h]; simp)
  · injection e with e
    injection e with e1 e2
    subst e1; subst e2
    refine .inr ⟨_, _, rfl, fun i x hx j v hv => ?_⟩
    rw [List.getElem?_drop] at hx
    have := h _ x hx j v hv
    rw [Nat.add_mul, ← Nat.add_assoc] at this; exact this
/-- what put leaves -/
def PutR (w : World) (R : List (Int × Int)) (k : Nat) (d n : Int) (v : Value) (w' : World) : Prop := ∃ a cap, v = .slice a (R.length + 1) cap ∧ PrA w' a (R.take k ++ (d, n) :: R.drop k) ∧ R.length + 1 ≤ cap ∧ Below w.heap.size w w'
end Go.Proofs.Ythogokflobnfpaa
