/- What may come, in memory. -/
import Derived.Test.YthogokflobnfpaaBoMem
import Derived.Test.YthogokflobnfpaaCoMath
namespace Go.Proofs.Ythogokflobnfpaa
open Go.RowKit

def Mb.cells (x : Mb) : List Value := [.int .i64 x.am, .int .i64 x.ch]
def Mb.val (x : Mb) : Value := .agg #[.int .i64 x.am, .int .i64 x.ch]
theorem mb_len (x : Mb) : x.cells.length = 2 := rfl
abbrev MbA (w : World) (a : Option Addr) (l : List Mb) : Prop := Rws Mb.cells 2 w a l
theorem mb_at {w : World} {a : Option Addr} {l : List Mb} (h : MbA w a l) {j : Nat} {x : Mb} (hx : l[j]? = some x) : ∃ b o, a = some ⟨b, o, none⟩ ∧ w.cell? ⟨b, o + j * 2, none⟩ = some (.int .i64 x.am) ∧ w.cell? ⟨b, o + j * 2 + 1, none⟩ = some (.int .i64 x.ch) := by
  rcases h with z | ⟨b, o, z, hz⟩
  · rw [z] at hx; simp at hx
  · exact ⟨b, o, z, hz j x hx 0 _ rfl, hz j x hx 1 _ rfl⟩
theorem mba_fresh (w : World) (t : Nat) (l : List Mb) (cs : Array Value) (hcs : cs = (l.flatMap Mb.cells).toArray) : MbA (w.alloc (.cells cs t)) (some ⟨w.heap.size, 0, none⟩) l := by
  refine .inr ⟨_, 0, rfl, fun i x hx j v hv => ?_⟩
  rw [(Has.fresh w t cs).cell, hcs, Nat.zero_add, List.getElem?_toArray]
  exact flat_at mb_len l i j x v hx hv
end Go.Proofs.Ythogokflobnfpaa
