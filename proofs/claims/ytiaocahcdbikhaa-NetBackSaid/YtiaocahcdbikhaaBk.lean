/- Blocks known whole. -/
import Derived.Lib.SlBytesRow
import Derived.Lib.BufferWrite
import Derived.Laws.Rows
import Derived.Laws.MakeOwn
import Derived.Test.YtiaocahcdbikhaaM
namespace Go.Proofs.Ytiaocahcdbikhaa
open Go.RowKit

/-- block g holds just the cells cs, of type t -/
def Has (w : World) (g t : Nat) (cs : Array Value) : Prop := w.heap[g]? = some (.cells cs t (0, 0))
theorem Has.lt {w : World} {g t : Nat} {cs : Array Value} (h : Has w g t cs) : g < w.heap.size := by
  unfold Has at h
  by_cases q : g < w.heap.size
  · exact q
  · rw [Array.getElem?_eq_none (by omega)] at h; cases h
theorem Has.cell {w : World} {g t : Nat} {cs : Array Value} (h : Has w g t cs) (i : Nat) : w.cell? ⟨g, i, none⟩ = cs[i]? := cell_of_row w g i cs t (0, 0) h
theorem Has.free {w : World} {g t : Nat} {cs : Array Value} (h : Has w g t cs) (i : Nat) : w.frozen? ⟨g, i, none⟩ = false := frozen_of_row w g i cs t h
theorem Has.ne {w : World} {g t g' t' : Nat} {cs cs' : Array Value} (h : Has w g t cs) (h' : Has w g' t' cs') (q : t ≠ t') : g ≠ g' := by
  rintro rfl
  unfold Has at h h'
  rw [h] at h'
  injection h' with h'
  injection h' with _ e
  exact q e
theorem Has.put {w : World} {g t : Nat} {cs : Array Value} (h : Has w g t cs) (i : Nat) (v : Value) : Has (w.setCell ⟨g, i, none⟩ v) g t (cs.setIfInBounds i v) := heap_setCell_same w g i cs t v h
theorem Has.off {w : World} {g t : Nat} {cs : Array Value} (h : Has w g t cs) {p : Addr} (q : g ≠ p.block) (v : Value) : Has (w.setCell p v) g t cs := (heap_setCell_other w p g v q).trans h
theorem Has.more {w : World} {g t : Nat} {cs : Array Value} (h : Has w g t cs) (o : Obj) : Has (w.alloc o) g t cs := (heap_alloc_old w o h.lt).trans h
theorem Has.fresh (w : World) (t : Nat) (cs : Array Value) : Has (w.alloc (.cells cs t)) w.heap.size t cs := heap_alloc_new w _

theorem Has.up {w w' : World} {g t : Nat} {cs : Array Value} (h : Has w g t cs) (q : Below w.heap.size w w') : Has w' g t cs := (q.block g h.lt).trans h
end Go.Proofs.Ytiaocahcdbikhaa
