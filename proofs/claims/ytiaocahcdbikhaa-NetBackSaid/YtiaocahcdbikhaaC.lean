/- Contracts: shares added. -/
import Derived.Deep.DeepCutAuto
import Derived.Test.YtiaocahcdbikhaaB
namespace Go.Proofs.Ytiaocahcdbikhaa
open Go.RowKit

theorem cAlloc {w : World} {o : Obj} {p : Addr} {v : Value} (h : w.cell? p = some v) : (w.alloc o).cell? p = some v := by
  rw [World.cell?_alloc_some _ _ _ (by rw [h]; rfl)]; exact h
theorem cSet {w : World} {a p : Addr} {u v : Value} (hne : a.block ≠ p.block) (h : w.cell? p = some v) : (w.setCell a u).cell? p = some v := by
  rw [World.cell?_setCell_far _ _ _ _ hne]; exact h
theorem fAlloc {w : World} {o : Obj} {p : Addr} (hp : p.block < w.heap.size) (h : w.frozen? p = false) : (w.alloc o).frozen? p = false := by
  rw [World.frozen?_of_block (w := w) (Below.heap_alloc w o _ hp)]; exact h
theorem fSet {w : World} {a p : Addr} {u : Value} (hne : p.block ≠ a.block) (h : w.frozen? p = false) : (w.setCell a u).frozen? p = false := by
  rw [World.frozen?_of_block (w := w) (Below.heap_setCell w a u _ hne)]; exact h

/-- three cells in a row that may be written -/
def Row3 (W : World) (p : Nat) (x y z : Value) : Prop :=
  W.cell? ⟨p, 0, none⟩ = some x ∧ W.cell? ⟨p, 1, none⟩ = some y ∧ W.cell? ⟨p, 2, none⟩ = some z ∧
  W.frozen? ⟨p, 0, none⟩ = false ∧ W.frozen? ⟨p, 1, none⟩ = false ∧ W.frozen? ⟨p, 2, none⟩ = false
theorem Row3.lt {W : World} {p : Nat} {x y z : Value} (h : Row3 W p x y z) : p < W.heap.size := World.block_lt_of_cell? (a := ⟨p, 0, none⟩) _ h.1
theorem Row3.drew {W : World} {p : Nat} {x y z : Value} (h : Row3 W p x y z) : Row3 W.drew p x y z := h
theorem Row3.below {W W' : World} {p : Nat} {x y z : Value} (h : Row3 W p x y z) (hb : Below W.heap.size W W') : Row3 W' p x y z :=
  have l := h.lt
  ⟨kcell hb h.1, kcell hb h.2.1, kcell hb h.2.2.1, (hb.frozen (p := ⟨p, 0, none⟩) l).trans h.2.2.2.1, (hb.frozen (p := ⟨p, 1, none⟩) l).trans h.2.2.2.2.1, (hb.frozen (p := ⟨p, 2, none⟩) l).trans h.2.2.2.2.2⟩
theorem Row3.alloc {W : World} {p : Nat} {x y z : Value} (h : Row3 W p x y z) (o : Obj) : Row3 (W.alloc o) p x y z :=
  have l := h.lt
  ⟨cAlloc h.1, cAlloc h.2.1, cAlloc h.2.2.1, fAlloc l h.2.2.2.1, fAlloc l h.2.2.2.2.1, fAlloc l h.2.2.2.2.2⟩
theorem Row3.set {W : World} {p : Nat} {x y z : Value} (h : Row3 W p x y z) {a : Addr} (ha : a.block ≠ p) (u : Value) : Row3 (W.setCell a u) p x y z :=
  ⟨cSet ha h.1, cSet ha h.2.1, cSet ha h.2.2.1, fSet (Ne.symm ha) h.2.2.2.1, fSet (Ne.symm ha) h.2.2.2.2.1, fSet (Ne.symm ha) h.2.2.2.2.2⟩

theorem Row3.new (W : World) (x y z : Value) (t : Nat) : Row3 (W.alloc (.cells #[x, y, z] t)) W.heap.size x y z := by
  unfold Row3; simp [go_sem]

theorem Row3.put {W : World} {p : Nat} {x y z : Value} (h : Row3 W p x y z) (x' y' z' : Value) :
    Row3 (((W.setCell ⟨p, 0, none⟩ x').setCell ⟨p, 1, none⟩ y').setCell ⟨p, 2, none⟩ z') p x' y' z' := by
  obtain ⟨h0, h1, h2, f0, f1, f2⟩ := h
  unfold Row3; simp [go_sem, h0, h1, h2, f0, f1, f2]

/-- a call's own block at N + 2, all below N kept -/
def St (N : Nat) (w W : World) (x y z : Value) : Prop := Below N w W ∧ N + 3 ≤ W.heap.size ∧ Row3 W (N + 2) x y z
theorem St.drew {N : Nat} {w W : World} {x y z : Value} (h : St N w W x y z) : St N w W.drew x y z := ⟨h.1.drew, h.2.1, h.2.2⟩
theorem St.below {N : Nat} {w W W' : World} {x y z : Value} (h : St N w W x y z) (hb : Below W.heap.size W W') : St N w W' x y z :=
  ⟨h.1.trans (hb.mono (by have := h.2.1; omega)), Nat.le_trans h.2.1 hb.size, h.2.2.below hb⟩
theorem St.alloc {N : Nat} {w W : World} {x y z : Value} (h : St N w W x y z) (o : Obj) : St N w (W.alloc o) x y z :=
  ⟨h.1.alloc (by have := h.2.1; omega) o, by have := h.2.1; simp; omega, h.2.2.alloc o⟩
theorem St.set {N : Nat} {w W : World} {x y z : Value} (h : St N w W x y z) {a : Addr} (ha : N + 3 ≤ a.block) (u : Value) : St N w (W.setCell a u) x y z :=
  ⟨h.1.setCell (by omega) u, by simpa using h.2.1, h.2.2.set (by omega) u⟩

def Full (N : Nat) (w : World) (a0 a1 a2 b0 b1 b2 : Value) (W : World) : Prop :=
  W.cell? ⟨N, 0, none⟩ = some a0 ∧ W.cell? ⟨N, 1, none⟩ = some a1 ∧ W.cell? ⟨N, 2, none⟩ = some a2 ∧
  W.cell? ⟨N + 1, 0, none⟩ = some b0 ∧ W.cell? ⟨N + 1, 1, none⟩ = some b1 ∧ W.cell? ⟨N + 1, 2, none⟩ = some b2 ∧ St N w W (.int .u64 0) (.int .u64 0) (.int .u64 0)
theorem Full.drew {N : Nat} {w W : World} {a0 a1 a2 b0 b1 b2 : Value} (h : Full N w a0 a1 a2 b0 b1 b2 W) : Full N w a0 a1 a2 b0 b1 b2 W.drew :=
  ⟨h.1, h.2.1, h.2.2.1, h.2.2.2.1, h.2.2.2.2.1, h.2.2.2.2.2.1, h.2.2.2.2.2.2.drew⟩
theorem Full.below {N : Nat} {w W W' : World} {a0 a1 a2 b0 b1 b2 : Value} (h : Full N w a0 a1 a2 b0 b1 b2 W) (hb : Below W.heap.size W W') : Full N w a0 a1 a2 b0 b1 b2 W' :=
  ⟨kcell hb h.1, kcell hb h.2.1, kcell hb h.2.2.1, kcell hb h.2.2.2.1, kcell hb h.2.2.2.2.1, kcell hb h.2.2.2.2.2.1, h.2.2.2.2.2.2.below hb⟩
theorem Full.alloc {N : Nat} {w W : World} {a0 a1 a2 b0 b1 b2 : Value} (h : Full N w a0 a1 a2 b0 b1 b2 W) (o : Obj) : Full N w a0 a1 a2 b0 b1 b2 (W.alloc o) :=
  ⟨cAlloc h.1, cAlloc h.2.1, cAlloc h.2.2.1, cAlloc h.2.2.2.1, cAlloc h.2.2.2.2.1, cAlloc h.2.2.2.2.2.1, h.2.2.2.2.2.2.alloc o⟩
theorem Full.set {N : Nat} {w W : World} {a0 a1 a2 b0 b1 b2 : Value} (h : Full N w a0 a1 a2 b0 b1 b2 W) {a : Addr} (ha : N + 3 ≤ a.block) (u : Value) : Full N w a0 a1 a2 b0 b1 b2 (W.setCell a u) :=
  ⟨cSet (by simp; omega) h.1, cSet (by simp; omega) h.2.1, cSet (by simp; omega) h.2.2.1, cSet (by simp; omega) h.2.2.2.1, cSet (by simp; omega) h.2.2.2.2.1, cSet (by simp; omega) h.2.2.2.2.2.1, h.2.2.2.2.2.2.set ha u⟩

end Go.Proofs.Ytiaocahcdbikhaa
