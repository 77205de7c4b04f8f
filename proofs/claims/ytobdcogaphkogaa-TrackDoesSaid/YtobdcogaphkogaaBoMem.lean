/- Blocks known whole. -/
import Derived.Lib.SlBytesRow
import Derived.Lib.BufferWrite
import Derived.Laws.Rows
import Derived.Laws.MakeOwn
import Derived.ArgAppend
import Derived.Laws.OwnMore
import Derived.Test.YtobdcogaphkogaaKit
import Derived.Test.YtobdcogaphkogaaBoMath
namespace Go.Proofs.Ytobdcogaphkogaa
open Go.RowKit

/-- block g holds just the cells cs, of type t -/
def Has (w : World) (g t : Nat) (cs : Array Value) : Prop := w.heap[g]? = some (.cells cs t (0, 0))
theorem Has.lt {w : World} {g t : Nat} {cs : Array Value} (h : Has w g t cs) : g < w.heap.size := by
  unfold Has at h
  by_cases q : g < w.heap.size
  · exact q
  · rw [Array.getElem?_eq_none (by omega)] at h; cases h
theorem Has.cell {w : World} {g t : Nat} {cs : Array Value} (h : Has w g t cs) (i : Nat) : w.cell? ⟨g, i, none⟩ = cs[i]? := cell_of_row w g i cs t (0, 0) h
theorem Has.free {w : World} {g t : Nat} {cs : Array Value} (h : Has w g t cs) (i : Nat) : w.frozen? ⟨g, i, none⟩ = false := frozen_of_row w g i cs t h
theorem Has.ne {w : World} {g t g' t' : Nat} {cs cs' : Array Value} (h : Has w g t cs) (h' : Has w g' t' cs') (q : t ≠ t') : g ≠ g' := by
  rintro rfl
  unfold Has at h h'
  rw [h] at h'
  injection h' with h'
  injection h' with _ e
  exact q e
theorem Has.put {w : World} {g t : Nat} {cs : Array Value} (h : Has w g t cs) (i : Nat) (v : Value) : Has (w.setCell ⟨g, i, none⟩ v) g t (cs.setIfInBounds i v) := heap_setCell_same w g i cs t v h
theorem Has.off {w : World} {g t : Nat} {cs : Array Value} (h : Has w g t cs) {p : Addr} (q : g ≠ p.block) (v : Value) : Has (w.setCell p v) g t cs := (heap_setCell_other w p g v q).trans h
theorem Has.more {w : World} {g t : Nat} {cs : Array Value} (h : Has w g t cs) (o : Obj) : Has (w.alloc o) g t cs := (heap_alloc_old w o h.lt).trans h
theorem Has.fresh (w : World) (t : Nat) (cs : Array Value) : Has (w.alloc (.cells cs t)) w.heap.size t cs := heap_alloc_new w _

theorem Has.up {w w' : World} {g t : Nat} {cs : Array Value} (h : Has w g t cs) (q : Below w.heap.size w w') : Has w' g t cs := (q.block g h.lt).trans h
end Go.Proofs.Ytobdcogaphkogaa

namespace Go.Proofs.Ytobdcogaphkogaa
open Go.RowKit

section
variable {α : Type} {c : α → List Value} {z : Nat} {w w' : World} {a : Option Addr} {l : List α}
/-- things that lie from an address on, z cells each -/
def Rws (c : α → List Value) (z : Nat) (w : World) (a : Option Addr) (l : List α) : Prop :=
  l = [] ∨ ∃ b o, a = some ⟨b, o, none⟩ ∧ ∀ i x, l[i]? = some x → ∀ j v, (c x)[j]? = some v → w.cell? ⟨b, o + i * z + j, none⟩ = some v
theorem Rws.up (h : Rws c z w a l) (q : Below w.heap.size w w') : Rws c z w' a l := by
  rcases h with h | ⟨b, o, e, h⟩
  · exact .inl h
  · exact .inr ⟨b, o, e, fun i x hx j v hv => kcell q (h i x hx j v hv)⟩
theorem Rws.drewN (h : Rws c z w a l) (n : Nat) : Rws c z (w.drewN n) a l := by
  rcases h with h | ⟨b, o, e, h⟩
  · exact .inl h
  · exact .inr ⟨b, o, e, fun i x hx j v hv => by simpa using h i x hx j v hv⟩
/-- no integer lies in this block -/
def NoInt (w : World) (g : Nat) : Prop := ∀ o k v, w.cell? ⟨g, o, none⟩ ≠ some (.int k v)
theorem Rws.off (hi : ∀ x : α, ∃ k v, (c x)[0]? = some (.int k v)) (h : Rws c z w a l) {g : Nat} (hg : NoInt w g) (q : w.grownBy w' (some g)) : Rws c z w' a l := by
  rcases h with h | ⟨b, o, e, h⟩
  · exact .inl h
  · refine .inr ⟨b, o, e, fun i x hx j v hv => q.cell (h i x hx j v hv) fun e => ?_⟩
    injection e with e
    have e : b = g := e
    subst e
    obtain ⟨k, v, h0⟩ := hi x
    exact hg _ _ _ (h i x hx 0 _ h0)
theorem flat_get (hz : ∀ x, (c x).length = z) : ∀ (l : List α) (j : Nat) (u : Value), (l.flatMap c)[j]? = some u → ∃ i x r, j = i * z + r ∧ l[i]? = some x ∧ (c x)[r]? = some u
  | [], j, u, h => by simp at h
  | x :: l, j, u, h => by
    rw [List.flatMap_cons] at h
    by_cases q : j < (c x).length
    · rw [List.getElem?_append_left q] at h
      exact ⟨0, x, j, by omega, rfl, h⟩
    · rw [List.getElem?_append_right (by omega), hz] at h
      rw [hz] at q
      obtain ⟨i, y, r, e, hy, hu⟩ := flat_get hz l _ _ h
      exact ⟨i + 1, y, r, by rw [Nat.add_mul]; omega, by simpa using hy, hu⟩
theorem flat_at (hz : ∀ x, (c x).length = z) : ∀ (l : List α) (i j : Nat) (x : α) (v : Value), l[i]? = some x → (c x)[j]? = some v → (l.flatMap c)[i * z + j]? = some v
  | [], i, j, x, v, h, _ => by simp at h
  | y :: l, i, j, x, v, h, hv => by
    rw [List.flatMap_cons]
    match i, h with
    | 0, h =>
      obtain rfl : y = x := by simpa using h
      have hj := (List.getElem?_eq_some_iff.1 hv).1
      rw [Nat.zero_mul, Nat.zero_add, List.getElem?_append_left hj]; exact hv
    | i + 1, h =>
      have h' : l[i]? = some x := by simpa using h
      rw [List.getElem?_append_right (by rw [hz, Nat.add_mul]; omega), hz]
      have := flat_at hz l i j x v h' hv
      rw [show (i + 1) * z + j - z = i * z + j by rw [Nat.add_mul]; omega]; exact this
theorem flat_len (hz : ∀ x, (c x).length = z) : ∀ l : List α, (l.flatMap c).length = l.length * z
  | [] => by simp
  | x :: l => by rw [List.flatMap_cons, List.length_append, hz, flat_len hz l, List.length_cons, Nat.add_mul]; omega
theorem Rws.flat (hz : ∀ x, (c x).length = z) {b o : Nat} (h : Rws c z w (some ⟨b, o, none⟩) l) (j : Nat) (u : Value) (hu : (l.flatMap c)[j]? = some u) : w.cell? ⟨b, o + j, none⟩ = some u := by
  obtain ⟨i, x, r, rfl, hx, hr⟩ := flat_get hz l j u hu
  rcases h with h | ⟨b', o', e, h⟩
  · rw [h] at hx; simp at hx
  · injection e with e
    injection e with e1 e2
    subst e1; subst e2
    rw [← Nat.add_assoc]; exact h i x hx r u hr
theorem own_formb {base e size n : Nat} {v : Value} {xs : List Value} (h : w.ownsRow base e size v n xs) : ∃ a cap, v = .slice a n cap := by
  rcases h.2 with ⟨rfl, rfl⟩ | ⟨g, cap, cur, rfl, _⟩
  · exact ⟨none, 0, rfl⟩
  · exact ⟨_, cap, rfl⟩
theorem own_rws (hz : ∀ x, (c x).length = z) {B T n cap : Nat} {a : Option Addr} (h : w.ownsRow B T z (.slice a n cap) n (l.flatMap c)) (hl : l.length = n) : Rws c z w a l ∧ n ≤ cap := by
  have h0 := h
  rcases h.2 with ⟨e, rfl⟩ | ⟨g, cp, cur, e, _, _, h5, _⟩
  · injection e with e1 _ e3
    exact ⟨.inl (List.eq_nil_of_length_eq_zero hl), Nat.zero_le _⟩
  · injection e with e1 _ e3
    subst e1; subst e3
    refine ⟨.inr ⟨g, 0, rfl, fun i x hx j v hv => ?_⟩, h5⟩
    have hf := flat_at hz l i j x v hx hv
    have hj := (List.getElem?_eq_some_iff.1 hf).1
    rw [flat_len hz, hl] at hj
    have := World.ownsRow.cellAt (w := w) h0 (i * z + j) hj
    rw [Nat.zero_add, this]; exact hf
end

def Im.cells (x : Im) : List Value := [.int .i64 x.tag, .int .i64 x.grp, .int .i64 x.met, .int .i64 x.pri]
def Im.val (x : Im) : Value := .agg #[.int .i64 x.tag, .int .i64 x.grp, .int .i64 x.met, .int .i64 x.pri]
def Pc.cells (x : Pc) : List Value := [.int .i64 x.it, .int .i64 x.dy, .int .i64 x.n]
def Ln.cells (x : Ln) : List Value := [.int .i64 x.it, .int .i64 x.un, .int .i64 x.ch, .int .i64 x.fi, .int .i64 x.la]
def prC (e : Int × Int) : List Value := [.int .i64 e.1, .int .i64 e.2]
theorem im_len (x : Im) : x.cells.length = 4 := rfl
theorem pc_len (x : Pc) : x.cells.length = 3 := rfl
theorem pr_len (x : Int × Int) : (prC x).length = 2 := rfl
theorem im_one (l : List Im) : ∀ u ∈ l.flatMap Im.cells, u.oneCell' = true := fun u hu => by
  obtain ⟨x, _, hx⟩ := List.mem_flatMap.1 hu
  simp [Im.cells] at hx
  rcases hx with rfl | rfl | rfl | rfl <;> rfl
theorem pc_one (l : List Pc) : ∀ u ∈ l.flatMap Pc.cells, u.oneCell' = true := fun u hu => by
  obtain ⟨x, _, hx⟩ := List.mem_flatMap.1 hu
  simp [Pc.cells] at hx
  rcases hx with rfl | rfl | rfl <;> rfl
theorem pr_one (l : List (Int × Int)) : ∀ u ∈ l.flatMap prC, u.oneCell' = true := fun u hu => by
  obtain ⟨x, _, hx⟩ := List.mem_flatMap.1 hu
  simp [prC] at hx
  rcases hx with rfl | rfl <;> rfl
abbrev ItA (w : World) (a : Option Addr) (l : List Im) : Prop := Rws Im.cells 4 w a l
abbrev PcA (w : World) (a : Option Addr) (l : List Pc) : Prop := Rws Pc.cells 3 w a l
abbrev LnA (w : World) (a : Option Addr) (l : List Ln) : Prop := Rws Ln.cells 5 w a l
abbrev PrA (w : World) (a : Option Addr) (l : List (Int × Int)) : Prop := Rws prC 2 w a l

/-- a row of prices in memory -/
structure Rw where
  a : Option Addr
  cap : Nat
  R : List (Int × Int)
def Rw.val (x : Rw) : Value := .slice x.a x.R.length x.cap
theorem im_int (x : Im) : ∃ k v, x.cells[0]? = some (.int k v) := ⟨_, _, rfl⟩
theorem pr_int (x : Int × Int) : ∃ k v, (prC x)[0]? = some (.int k v) := ⟨_, _, rfl⟩
theorem pc_int (x : Pc) : ∃ k v, x.cells[0]? = some (.int k v) := ⟨_, _, rfl⟩
theorem ln_int (x : Ln) : ∃ k v, x.cells[0]? = some (.int k v) := ⟨_, _, rfl⟩
theorem noInt_of {w : World} {g t : Nat} {cs : Array Value} (h : Has w g t cs) (hs : ∀ v ∈ cs.toList, ∃ a n k, v = .slice a n k) : NoInt w g := fun o k v e => by
  rw [h.cell] at e
  obtain ⟨a, n, c, q⟩ := hs _ (by rw [← Array.getElem?_toList] at e; exact List.mem_of_getElem? e)
  cases q
theorem grown_of {w w' : World} (q : Below w.heap.size w w') (row : Option Nat) : w.grownBy w' row := ⟨q.os, q.tape, q.output, q.size, fun i hi _ => q.block i hi⟩
theorem grown_trans {w w1 w2 : World} {row : Option Nat} (h : w.grownBy w1 row) (h2 : w1.grownBy w2 row) : w.grownBy w2 row :=
  ⟨h2.os.trans h.os, h2.tape.trans h.tape, h2.output.trans h.output, Nat.le_trans h.size h2.size, fun k hk hn => (h2.block k (Nat.lt_of_lt_of_le hk h.size) hn).trans (h.block k hk hn)⟩
theorem grown_set (w : World) (g i : Nat) (v : Value) : w.grownBy (w.setCell ⟨g, i, none⟩ v) (some g) :=
  ⟨rfl, rfl, rfl, by simp, fun k _ hn => Below.heap_setCell w ⟨g, i, none⟩ v k (fun e => hn (by rw [e]))⟩
section
variable {w w' : World} {p r : Nat} {S : Bs} {qa : Option Addr} {qc : Nat} {X : List Rw}
end
end Go.Proofs.Ytobdcogaphkogaa
