/- An append in a region, and in a walk, by what it gives. -/
import Derived.Deep.RegionLaw
import Derived.Laws.Rows
import Derived.Maps.AppendAt
import Derived.Lib.AppendZeros
import Derived.Laws.OwnMore
import Derived.Laws.MakeOwn
import Derived.Test.YtobdcogaphkogaaKit
import Derived.Test.YtobdcogaphkogaaDnMath
import Derived.Test.YtobdcogaphkogaaBoMem
namespace Go.Proofs.Ytobdcogaphkogaa
open Go.RowKit

section
variable {P : Program} {ops : Array Oper} {o : Oper} {a : Act} {w : World} {K : Act → World → Prop} {Q : Exit → Act → World → Prop} {E : Prop}
/-- an append in a region, by what it gives -/
theorem step_run (hgd : o.guard = none) (s x : Operand) (t : TypeId) (ho : o.op = .call { callee := .builtin .append, args := #[s, x], argTypes := #[t, t] }) (vs vx : Value) (hs : a.eval s = vs) (hx : a.eval x = vx)
    {S : Value → World → Prop} (hr : ∃ v' w', (Builtin.append_ #[t, t] o.type #[vs, vx]).run P w = .ok v' w' ∧ S v' w') (h : ∀ v' w', S v' w' → K (a.put o.dst v') w') :
    if Region.wanted o (yielded ops a.tmps) = true then Oper.wp P o a w K Q else E := by
  have hw : Region.wanted o (yielded ops a.tmps) = true := by simp [Region.wanted, hgd]
  rw [if_pos hw]
  obtain ⟨v', w', hr, hS⟩ := hr
  exact Lib.wp_append_run w s x t t ho vs vx hs hx v' w' hr (h v' w' hS)
end
/-- an append in a walk, by what it gives -/
theorem wpList_run {P : Program} {w : World} {ops : Array Oper} {rest : List Oper} {o : Oper} {a : Act} {Q : Exit → Act → World → Prop} (hgd : o.guard = none) (s x : Operand) (t : TypeId)
    (ho : o.op = .call { callee := .builtin .append, args := #[s, x], argTypes := #[t, t] }) (vs vx : Value) (hs : a.eval s = vs) (hx : a.eval x = vx)
    {S : Value → World → Prop} (hr : ∃ v' w', (Builtin.append_ #[t, t] o.type #[vs, vx]).run P w = .ok v' w' ∧ S v' w') (h : ∀ v' w', S v' w' → wpList P ops Q rest (a.put o.dst v') w') : wpList P ops Q (o :: rest) a w := by
  obtain ⟨v', w', hr, hS⟩ := hr
  exact wpList_plain hgd fun _ hK => Lib.wp_append_run w s x t t ho vs vx hs hx v' w' hr (hK _ _ (h v' w' hS))
theorem at_w {P : Program} {ops : Array Oper} {o : Oper} {a : Act} {K : Act → World → Prop} {Q : Exit → Act → World → Prop} {E : Prop} (w : World) (h : if Region.wanted o (yielded ops a.tmps) = true then Oper.wp P o a w K Q else E) : if Region.wanted o (yielded ops a.tmps) = true then Oper.wp P o a w K Q else E := h
theorem addr_off (b off k : Nat) : (⟨b, off, none⟩ : Addr).add k = ⟨b, off + k, none⟩ := by simp [Addr.add]
end Go.Proofs.Ytobdcogaphkogaa

namespace Go.Proofs.Ytobdcogaphkogaa
open Go.RowKit

def inC (n : Int) : List Value := [.int .i64 n]
def tlC (x : Tl) : List Value := [.int .i64 x.1, .int .i64 x.2]
theorem in_len (n : Int) : (inC n).length = 1 := rfl
theorem tl_len (x : Tl) : (tlC x).length = 2 := rfl
theorem in_one (l : List Int) : ∀ u ∈ l.flatMap inC, u.oneCell' = true := fun u hu => by
  obtain ⟨x, _, hx⟩ := List.mem_flatMap.1 hu
  simp [inC] at hx
  rcases hx with rfl; rfl
theorem tl_one (l : List Tl) : ∀ u ∈ l.flatMap tlC, u.oneCell' = true := fun u hu => by
  obtain ⟨x, _, hx⟩ := List.mem_flatMap.1 hu
  simp [tlC] at hx
  rcases hx with rfl | rfl <;> rfl
/-- events that lie in a row; numbers that do -/
abbrev TlA (w : World) (a : Option Addr) (l : List Tl) : Prop := Rws tlC 2 w a l
abbrev InA (w : World) (a : Option Addr) (l : List Int) : Prop := Rws inC 1 w a l
theorem tl_at {w : World} {a : Option Addr} {l : List Tl} (h : TlA w a l) {j : Nat} {x : Tl} (hx : l[j]? = some x) : ∃ b o, a = some ⟨b, o, none⟩ ∧ w.cell? ⟨b, o + j * 2, none⟩ = some (.int .i64 x.1) ∧ w.cell? ⟨b, o + j * 2 + 1, none⟩ = some (.int .i64 x.2) := by
  rcases h with z | ⟨b, o, z, hz⟩
  · rw [z] at hx; simp at hx
  · exact ⟨b, o, z, hz j x hx 0 _ rfl, hz j x hx 1 _ rfl⟩
theorem in_at {w : World} {a : Option Addr} {l : List Int} (h : InA w a l) {j : Nat} {x : Int} (hx : l[j]? = some x) : ∃ b o, a = some ⟨b, o, none⟩ ∧ w.cell? ⟨b, o + j, none⟩ = some (.int .i64 x) := by
  rcases h with z | ⟨b, o, z, hz⟩
  · rw [z] at hx; simp at hx
  · refine ⟨b, o, z, ?_⟩
    have := hz j x hx 0 _ rfl
    rwa [Nat.mul_one, Nat.add_zero] at this
/-- an owned row's block isn't one of another type -/
theorem own_ne {w : World} {B T z n g T' : Nat} {v : Value} {xs : List Value} {cs : Array Value} (h : w.ownsRow B T z v n xs) (hh : Has w g T' cs) (hT : T ≠ T') : v.ownBlock ≠ some g := by
  rcases h.2 with ⟨rfl, _⟩ | ⟨g', cap, cur, rfl, _, h3, _⟩
  · simp [Value.ownBlock]
  · intro e
    have e : g' = g := by simpa [Value.ownBlock] using e
    subst e
    unfold Has at hh
    rw [hh] at h3
    injection h3 with h3
    injection h3 with _ e
    exact hT e.symm
theorem own_two {w : World} {B B' T T' z z' n n' : Nat} {v v' : Value} {xs xs' : List Value} (h : w.ownsRow B T z v n xs) (h' : w.ownsRow B' T' z' v' n' xs') (hT : T ≠ T') : v.ownBlock = none ∨ v.ownBlock ≠ v'.ownBlock := by
  rcases h'.2 with ⟨rfl, _⟩ | ⟨g', cap, cur, rfl, _, h3, _⟩
  · cases q : v.ownBlock with
    | none => exact .inl rfl
    | some g => exact .inr (by simp [Value.ownBlock])
  · exact .inr (own_ne h (cs := cur) h3 hT)
/-- an owned row in a world that goes on -/
theorem own_up {w w' : World} {B T z n : Nat} {v : Value} {xs : List Value} (h : w.ownsRow B T z v n xs) (q : Below w.heap.size w w') : w'.ownsRow B T z v n xs :=
  h.kept (grown_of q none) (by cases v.ownBlock <;> simp)
theorem own_form3 {w : World} {B T z n : Nat} {v : Value} {xs : List Value} (h : w.ownsRow B T z v n xs) : ∃ a c, v = .slice a n c ∧ (a = none → n = 0 ∧ c = 0) ∧ (∀ ad, a = some ad → ∃ g, ad = ⟨g, 0, none⟩) := by
  rcases h.2 with ⟨e1, e2⟩ | ⟨g, cap, cur, e, _⟩
  · exact ⟨none, 0, by rw [e1, e2], fun _ => ⟨e2, rfl⟩, fun ad e => by cases e⟩
  · exact ⟨_, cap, e, ⟨fun e => (by cases e), fun ad e => ⟨g, (Option.some.inj e).symm⟩⟩⟩
/-- a log in memory: its struct lies in block p -/
structure TgX (w : World) (B p : Nat) (d : Dt) (E : List Tl) (la : Option Addr) (lc : Nat) (tv : Value) : Prop where
  has : Has w p 84 #[.slice la d.ls.length lc, .int .i64 d.al, .int .i64 d.un, .int .i64 d.me, .int .i64 d.fi, .int .i64 d.la, tv]
  lns : w.ownsRow 0 3 1 (.slice la d.ls.length lc) d.ls.length (d.ls.flatMap inC)
  own : w.ownsRow B 87 2 tv E.length (E.flatMap tlC)
  fine : FineT d E
  nil0 : E = [] → tv = .slice none 0 0
section
variable {w w' : World} {B p : Nat} {d : Dt} {E : List Tl} {la : Option Addr} {lc : Nat} {tv : Value}
theorem TgX.up (h : TgX w B p d E la lc tv) (q : Below w.heap.size w w') : TgX w' B p d E la lc tv := ⟨h.has.up q, own_up h.lns q, own_up h.own q, h.fine, h.nil0⟩
theorem TgX.lt (h : TgX w B p d E la lc tv) : p < w.heap.size := h.has.lt
/-- what turns in a block beside -/
theorem TgX.off (h : TgX w B p d E la lc tv) {row : Option Nat} (q : w.grownBy w' row) (h1 : some p ≠ row) (h2 : (Value.slice la d.ls.length lc).ownBlock = none ∨ (Value.slice la d.ls.length lc).ownBlock ≠ row) (h3 : tv.ownBlock = none ∨ tv.ownBlock ≠ row) : TgX w' B p d E la lc tv :=
  ⟨(q.block p h.has.lt h1).trans h.has, h.lns.kept q h2, h.own.kept q h3, h.fine, h.nil0⟩
/-- the row of what was told -/
theorem TgX.row (h : TgX w B p d E la lc tv) : ∃ a c, tv = .slice a E.length c ∧ TlA w a E := by
  obtain ⟨a, c, e, _⟩ := own_form3 h.own
  subst e
  exact ⟨a, c, rfl, (own_rws tl_len h.own rfl).1⟩
theorem TgX.lines (h : TgX w B p d E la lc tv) : InA w la d.ls ∧ (la = none → lc = 0) := by
  refine ⟨(own_rws in_len h.lns rfl).1, fun e => ?_⟩
  obtain ⟨a, c, e1, h1, _⟩ := own_form3 h.lns
  injection e1 with e1 _ e3
  subst e1; subst e3
  exact (h1 e).2
end
/-- a log of a call's own, in a world that goes on from another one -/
structure Tg (w0 w : World) (p : Nat) (d : Dt) (E : List Tl) : Prop where
  x : ∃ la lc tv, TgX w w0.heap.size p d E la lc tv
  kp : w0.grownBy w (some p)
section
variable {w0 w w' : World} {p : Nat} {d : Dt} {E : List Tl}
theorem Tg.up (h : Tg w0 w p d E) (q : Below w.heap.size w w') : Tg w0 w' p d E := by
  obtain ⟨⟨la, lc, tv, h⟩, hk⟩ := h
  exact ⟨⟨la, lc, tv, h.up q⟩, grown_trans hk (grown_of q _)⟩
theorem Tg.fine (h : Tg w0 w p d E) : FineT d E := by obtain ⟨⟨_, _, _, h⟩, _⟩ := h; exact h.fine
theorem Tg.lt (h : Tg w0 w p d E) : p < w.heap.size := by obtain ⟨⟨_, _, _, h⟩, _⟩ := h; exact h.lt
/-- its struct is new: nothing that was there turned -/
theorem Tg.bel (h : Tg w0 w p d E) (hp : w0.heap.size ≤ p) : Below w0.heap.size w0 w :=
  ⟨h.kp.os, h.kp.tape, h.kp.output, h.kp.size, fun k hk => h.kp.block k hk (fun e => by injection e with e; omega)⟩
/-- another base: nothing was told yet -/
theorem Tg.base (h : Tg w0 w p d []) : Tg w w p d [] := by
  obtain ⟨⟨la, lc, tv, h⟩, _⟩ := h
  have e := h.nil0 rfl
  subst e
  exact ⟨⟨la, lc, _, h.has, h.lns, World.ownsRow_nil _ _ _ _, h.fine, h.nil0⟩, grown_of (Below.refl _ _) _⟩
end
end Go.Proofs.Ytobdcogaphkogaa
