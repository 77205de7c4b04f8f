/- Blocks known whole. -/
import Derived.Lib.SlBytesRow
import Derived.Lib.BufferWrite
import Derived.Laws.Rows
import Derived.Laws.MakeOwn
import Derived.ArgAppend
import Derived.Laws.OwnMore
import Derived.WalkKit
import Derived.Test.YtklaonoekmhakaaGreatD
import Derived.Test.YtklaonoekmhakaaGreatBoMath
namespace Go.Proofs.YtklaonoekmhakaaGreat
open Go.RowKit

/-- block g holds just the cells cs, of type t -/
def Has (w : World) (g t : Nat) (cs : Array Value) : Prop := w.heap[g]? = some (.cells cs t (0, 0))
theorem Has.lt {w : World} {g t : Nat} {cs : Array Value} (h : Has w g t cs) : g < w.heap.size := by
  unfold Has at h
  by_cases q : g < w.heap.size
  · exact q
  · rw [Array.getElem?_eq_none (by omega)] at h; cases h
theorem Has.cell {w : World} {g t : Nat} {cs : Array Value} (h : Has w g t cs) (i : Nat) : w.cell? ⟨g, i, none⟩ = cs[i]? := cell_of_row w g i cs t (0, 0) h
theorem Has.free {w : World} {g t : Nat} {cs : Array Value} (h : Has w g t cs) (i : Nat) : w.frozen? ⟨g, i, none⟩ = false := frozen_of_row w g i cs t h
theorem Has.ne {w : World} {g t g' t' : Nat} {cs cs' : Array Value} (h : Has w g t cs) (h' : Has w g' t' cs') (q : t ≠ t') : g ≠ g' := by
  rintro rfl
  unfold Has at h h'
  rw [h] at h'
  injection h' with h'
  injection h' with _ e
  exact q e
theorem Has.put {w : World} {g t : Nat} {cs : Array Value} (h : Has w g t cs) (i : Nat) (v : Value) : Has (w.setCell ⟨g, i, none⟩ v) g t (cs.setIfInBounds i v) := heap_setCell_same w g i cs t v h
theorem Has.off {w : World} {g t : Nat} {cs : Array Value} (h : Has w g t cs) {p : Addr} (q : g ≠ p.block) (v : Value) : Has (w.setCell p v) g t cs := (heap_setCell_other w p g v q).trans h
theorem Has.more {w : World} {g t : Nat} {cs : Array Value} (h : Has w g t cs) (o : Obj) : Has (w.alloc o) g t cs := (heap_alloc_old w o h.lt).trans h
theorem Has.fresh (w : World) (t : Nat) (cs : Array Value) : Has (w.alloc (.cells cs t)) w.heap.size t cs := heap_alloc_new w _

theorem Has.up {w w' : World} {g t : Nat} {cs : Array Value} (h : Has w g t cs) (q : Below w.heap.size w w') : Has w' g t cs := (q.block g h.lt).trans h
end Go.Proofs.YtklaonoekmhakaaGreat

namespace Go.Proofs.YtklaonoekmhakaaGreat
open Go.RowKit

section
variable {α : Type} {c : α → List Value} {z : Nat} {w w' : World} {a : Option Addr} {l : List α}
/-- things that lie from an address on, z cells each -/
def Rws (c : α → List Value) (z : Nat) (w : World) (a : Option Addr) (l : List α) : Prop :=
  l = [] ∨ ∃ b o, a = some ⟨b, o, none⟩ ∧ ∀ i x, l[i]? = some x → ∀ j v, (c x)[j]? = some v → w.cell? ⟨b, o + i * z + j, none⟩ = some v
theorem Rws.up (h : Rws c z w a l) (q : Below w.heap.size w w') : Rws c z w' a l := by
  rcases h with h | ⟨b, o, e, h⟩
  · exact .inl h
  · exact .inr ⟨b, o, e, fun i x hx j v hv => kcell q (h i x hx j v hv)⟩
theorem Rws.drewN (h : Rws c z w a l) (n : Nat) : Rws c z (w.drewN n) a l := by
  rcases h with h | ⟨b, o, e, h⟩
  · exact .inl h
  · exact .inr ⟨b, o, e, fun i x hx j v hv => by simpa using h i x hx j v hv⟩
/-- no integer lies in this block -/
def NoInt (w : World) (g : Nat) : Prop := ∀ o k v, w.cell? ⟨g, o, none⟩ ≠ some (.int k v)
theorem Rws.off (hi : ∀ x : α, ∃ k v, (c x)[0]? = some (.int k v)) (h : Rws c z w a l) {g : Nat} (hg : NoInt w g) (q : w.grownBy w' (some g)) : Rws c z w' a l := by
  rcases h with h | ⟨b, o, e, h⟩
  · exact .inl h
  · refine .inr ⟨b, o, e, fun i x hx j v hv => q.cell (h i x hx j v hv) fun e => ?_⟩
    injection e with e
    have e : b = g := e
    subst e
    obtain ⟨k, v, h0⟩ := hi x
    exact hg _ _ _ (h i x hx 0 _ h0)
theorem flat_get (hz : ∀ x, (c x).length = z) : ∀ (l : List α) (j : Nat) (u : Value), (l.flatMap c)[j]? = some u → ∃ i x r, j = i * z + r ∧ l[i]? = some x ∧ (c x)[r]? = some u
  | [], j, u, h => by simp at h
  | x :: l, j, u, h => by
    rw [List.flatMap_cons] at h
    by_cases q : j < (c x).length
    · rw [List.getElem?_append_left q] at h
      exact ⟨0, x, j, by omega, rfl, h⟩
    · rw [List.getElem?_append_right (by omega), hz] at h
      rw [hz] at q
      obtain ⟨i, y, r, e, hy, hu⟩ := flat_get hz l _ _ h
      exact ⟨i + 1, y, r, by rw [Nat.add_mul]; omega, by simpa using hy, hu⟩
theorem flat_at (hz : ∀ x, (c x).length = z) : ∀ (l : List α) (i j : Nat) (x : α) (v : Value), l[i]? = some x → (c x)[j]? = some v → (l.flatMap c)[i * z + j]? = some v
  | [], i, j, x, v, h, _ => by simp at h
  | y :: l, i, j, x, v, h, hv => by
    rw [List.flatMap_cons]
    match i, h with
    | 0, h =>
      obtain rfl : y = x := by simpa using h
      have hj := (List.getElem?_eq_some_iff.1 hv).1
      rw [Nat.zero_mul, Nat.zero_add, List.getElem?_append_left hj]; exact hv
    | i + 1, h =>
      have h' : l[i]? = some x := by simpa using h
      rw [List.getElem?_append_right (by rw [hz, Nat.add_mul]; omega), hz]
      have := flat_at hz l i j x v h' hv
      rw [show (i + 1) * z + j - z = i * z + j by rw [Nat.add_mul]; omega]; exact this
theorem flat_len (hz : ∀ x, (c x).length = z) : ∀ l : List α, (l.flatMap c).length = l.length * z
  | [] => by simp
  | x :: l => by rw [List.flatMap_cons, List.length_append, hz, flat_len hz l, List.length_cons, Nat.add_mul]; omega
theorem Rws.flat (hz : ∀ x, (c x).length = z) {b o : Nat} (h : Rws c z w (some ⟨b, o, none⟩) l) (j : Nat) (u : Value) (hu : (l.flatMap c)[j]? = some u) : w.cell? ⟨b, o + j, none⟩ = some u := by
  obtain ⟨i, x, r, rfl, hx, hr⟩ := flat_get hz l j u hu
  rcases h with h | ⟨b', o', e, h⟩
  · rw [h] at hx; simp at hx
  · injection e with e
    injection e with e1 e2
    subst e1; subst e2
    rw [← Nat.add_assoc]; exact h i x hx r u hr
theorem own_formb {base e size n : Nat} {v : Value} {xs : List Value} (h : w.ownsRow base e size v n xs) : ∃ a cap, v = .slice a n cap := by
  rcases h.2 with ⟨rfl, rfl⟩ | ⟨g, cap, cur, rfl, _⟩
  · exact ⟨none, 0, rfl⟩
  · exact ⟨_, cap, rfl⟩
theorem own_rws (hz : ∀ x, (c x).length = z) {B T n cap : Nat} {a : Option Addr} (h : w.ownsRow B T z (.slice a n cap) n (l.flatMap c)) (hl : l.length = n) : Rws c z w a l ∧ n ≤ cap := by
  have h0 := h
  rcases h.2 with ⟨e, rfl⟩ | ⟨g, cp, cur, e, _, _, h5, _⟩
  · injection e with e1 _ e3
    exact ⟨.inl (List.eq_nil_of_length_eq_zero hl), Nat.zero_le _⟩
  · injection e with e1 _ e3
    subst e1; subst e3
    refine ⟨.inr ⟨g, 0, rfl, fun i x hx j v hv => ?_⟩, h5⟩
    have hf := flat_at hz l i j x v hx hv
    have hj := (List.getElem?_eq_some_iff.1 hf).1
    rw [flat_len hz, hl] at hj
    have := World.ownsRow.cellAt (w := w) h0 (i * z + j) hj
    rw [Nat.zero_add, this]; exact hf
end

def Im.cells (x : Im) : List Value := [.int .i64 x.tag, .int .i64 x.grp, .int .i64 x.met, .int .i64 x.pri]
def Im.val (x : Im) : Value := .agg #[.int .i64 x.tag, .int .i64 x.grp, .int .i64 x.met, .int .i64 x.pri]
def Pc.cells (x : Pc) : List Value := [.int .i64 x.it, .int .i64 x.dy, .int .i64 x.n]
def Ln.cells (x : Ln) : List Value := [.int .i64 x.it, .int .i64 x.un, .int .i64 x.ch, .int .i64 x.fi, .int .i64 x.la]
def prC (e : Int × Int) : List Value := [.int .i64 e.1, .int .i64 e.2]
theorem im_len (x : Im) : x.cells.length = 4 := rfl
theorem im_one (l : List Im) : ∀ u ∈ l.flatMap Im.cells, u.oneCell' = true := fun u hu => by
  obtain ⟨x, _, hx⟩ := List.mem_flatMap.1 hu
  simp [Im.cells] at hx
  rcases hx with rfl | rfl | rfl | rfl <;> rfl
abbrev ItA (w : World) (a : Option Addr) (l : List Im) : Prop := Rws Im.cells 4 w a l
abbrev PcA (w : World) (a : Option Addr) (l : List Pc) : Prop := Rws Pc.cells 3 w a l
abbrev LnA (w : World) (a : Option Addr) (l : List Ln) : Prop := Rws Ln.cells 5 w a l
abbrev PrA (w : World) (a : Option Addr) (l : List (Int × Int)) : Prop := Rws prC 2 w a l

/-- a row of prices in memory -/
structure Rw where
  a : Option Addr
  cap : Nat
  R : List (Int × Int)
def Rw.val (x : Rw) : Value := .slice x.a x.R.length x.cap
/-- a book in memory: its struct lies in block p, its rows in block r -/
structure Bkx (w : World) (p r : Nat) (S : Bs) (qa : Option Addr) (qc : Nat) (X : List Rw) : Prop where
  book : Has w p 118 #[.slice qa S.I.length qc, .slice (some ⟨r, 0, none⟩) S.I.length S.I.length]
  rows : Has w r 115 (X.map Rw.val).toArray
  len : X.length = S.I.length
  items : ItA w qa S.I
  ok : ∀ (i : Nat) x, X[i]? = some x → PrA w x.a x.R ∧ x.R.length ≤ x.cap ∧ RowOf S i x.R
  fine : FineB S
def Bk (w : World) (p r : Nat) (S : Bs) : Prop := ∃ qa qc X, Bkx w p r S qa qc X
theorem im_int (x : Im) : ∃ k v, x.cells[0]? = some (.int k v) := ⟨_, _, rfl⟩
theorem pr_int (x : Int × Int) : ∃ k v, (prC x)[0]? = some (.int k v) := ⟨_, _, rfl⟩
theorem pc_int (x : Pc) : ∃ k v, x.cells[0]? = some (.int k v) := ⟨_, _, rfl⟩
theorem noInt_of {w : World} {g t : Nat} {cs : Array Value} (h : Has w g t cs) (hs : ∀ v ∈ cs.toList, ∃ a n k, v = .slice a n k) : NoInt w g := fun o k v e => by
  rw [h.cell] at e
  obtain ⟨a, n, c, q⟩ := hs _ (by rw [← Array.getElem?_toList] at e; exact List.mem_of_getElem? e)
  cases q
theorem grown_of {w w' : World} (q : Below w.heap.size w w') (row : Option Nat) : w.grownBy w' row := ⟨q.os, q.tape, q.output, q.size, fun i hi _ => q.block i hi⟩
theorem grown_trans {w w1 w2 : World} {row : Option Nat} (h : w.grownBy w1 row) (h2 : w1.grownBy w2 row) : w.grownBy w2 row :=
  ⟨h2.os.trans h.os, h2.tape.trans h.tape, h2.output.trans h.output, Nat.le_trans h.size h2.size, fun k hk hn => (h2.block k (Nat.lt_of_lt_of_le hk h.size) hn).trans (h.block k hk hn)⟩
theorem grown_set (w : World) (g i : Nat) (v : Value) : w.grownBy (w.setCell ⟨g, i, none⟩ v) (some g) :=
  ⟨rfl, rfl, rfl, by simp, fun k _ hn => Below.heap_setCell w ⟨g, i, none⟩ v k (fun e => hn (by rw [e]))⟩
section
variable {w w' : World} {p r : Nat} {S : Bs} {qa : Option Addr} {qc : Nat} {X : List Rw}
theorem Bkx.up (h : Bkx w p r S qa qc X) (q : Below w.heap.size w w') : Bkx w' p r S qa qc X :=
  ⟨h.book.up q, h.rows.up q, h.len, h.items.up q, fun i x hx => ⟨(h.ok i x hx).1.up q, (h.ok i x hx).2⟩, h.fine⟩
theorem Bk.up (h : Bk w p r S) (q : Below w.heap.size w w') : Bk w' p r S := by
  obtain ⟨qa, qc, X, h⟩ := h; exact ⟨qa, qc, X, h.up q⟩
/-- what turns in a block beside, where no integers lie, leaves a book -/
theorem Bkx.off (h : Bkx w p r S qa qc X) {g : Nat} (hg : NoInt w g) (h1 : p ≠ g) (h2 : r ≠ g) (q : w.grownBy w' (some g)) : Bkx w' p r S qa qc X :=
  ⟨(q.block p h.book.lt (fun e => h1 (by injection e))).trans h.book, (q.block r h.rows.lt (fun e => h2 (by injection e))).trans h.rows, h.len, h.items.off im_int hg q, fun i x hx => ⟨(h.ok i x hx).1.off pr_int hg q, (h.ok i x hx).2⟩, h.fine⟩
theorem Bk.off (h : Bk w p r S) {g : Nat} (hg : NoInt w g) (h1 : p ≠ g) (h2 : r ≠ g) (q : w.grownBy w' (some g)) : Bk w' p r S := by
  obtain ⟨qa, qc, X, h⟩ := h; exact ⟨qa, qc, X, h.off hg h1 h2 q⟩
theorem Bkx.noInt (h : Bkx w p r S qa qc X) : NoInt w r := noInt_of h.rows fun v hv => by
  obtain ⟨x, _, rfl⟩ := List.mem_map.1 hv
  exact ⟨_, _, _, rfl⟩
theorem Bk.noInt (h : Bk w p r S) : NoInt w r := by obtain ⟨_, _, _, h⟩ := h; exact h.noInt
theorem Bk.fine (h : Bk w p r S) : FineB S := by obtain ⟨_, _, _, h⟩ := h; exact h.fine
theorem Bk.ne (h : Bk w p r S) {p' r' : Nat} {S' : Bs} (h' : Bk w p' r' S') : p ≠ r' := by
  obtain ⟨_, _, _, h⟩ := h; obtain ⟨_, _, _, h'⟩ := h'; exact h.book.ne h'.rows (by decide)
/-- two books beside each other: what is set in one leaves the other -/
theorem Bk.beside (h : Bk w p r S) {p' r' : Nat} {S' : Bs} (h' : Bk w p' r' S') (hne : r ≠ r') (q : w.grownBy w' (some r')) : Bk w' p r S := h.off h'.noInt (h.ne h') hne q
/-- cells of its struct -/
theorem Bkx.c0 (h : Bkx w p r S qa qc X) : w.cell? ⟨p, 0, none⟩ = some (.slice qa S.I.length qc) := h.book.cell 0
theorem Bkx.c1 (h : Bkx w p r S qa qc X) : w.cell? ⟨p, 1, none⟩ = some (.slice (some ⟨r, 0, none⟩) S.I.length S.I.length) := h.book.cell 1
theorem Bkx.row (h : Bkx w p r S qa qc X) {i : Nat} (hi : i < S.I.length) : ∃ x, X[i]? = some x ∧ w.cell? ⟨r, i, none⟩ = some (.slice x.a x.R.length x.cap) := by
  have hx : X[i]? = some (X[i]'(by rw [h.len]; exact hi)) := List.getElem?_eq_getElem _
  refine ⟨_, hx, ?_⟩
  rw [h.rows.cell, List.getElem?_toArray, List.getElem?_map, hx]; rfl
/-- a row with one more -/
theorem Bkx.set (h : Bkx w p r S qa qc X) {i : Nat} {x : Rw} {d n : Int} {k : Nat} {a' : Option Addr} {cap' : Nat} {w1 : World} (hx : X[i]? = some x) (hp : Pl x.R d k) (hE : setE S i d n = 0) (hn : Am n) (hb : Below w.heap.size w w1)
    (hR : PrA w1 a' (x.R.take k ++ (d, n) :: x.R.drop k)) (hc : x.R.length + 1 ≤ cap') :
    Bk (w1.setCell ⟨r, i, none⟩ (.slice a' (x.R.length + 1) cap')) p r (setS S i d n) := by
  obtain ⟨hI, d1, _, _, ht, _⟩ := setE_zero hE
  have hlen : (x.R.take k ++ (d, n) :: x.R.drop k).length = x.R.length + 1 := by
    have := hp.le
    simp only [List.length_append, List.length_take, List.length_cons, List.length_drop]; omega
  have h1 := h.up hb
  have hg := grown_set w1 r i (.slice a' (x.R.length + 1) cap')
  have hFS := h.fine.set (i := i) (d := d) (n := n) hn
  have hS : setS S i d n = setted S i d n := by unfold setS; rw [if_pos hE]
  refine ⟨qa, qc, X.set i ⟨a', cap', x.R.take k ++ (d, n) :: x.R.drop k⟩, ?_, ?_, ?_, ?_, fun j y hy => ?_, hFS⟩
  · rw [I_set]
    exact (hg.block p h1.book.lt (fun e => h1.book.ne h1.rows (by decide) (by injection e))).trans h1.book
  · have h2 := h1.rows.put i (.slice a' (x.R.length + 1) cap')
    rw [List.setIfInBounds_toArray] at h2
    rw [List.map_set]
    show Has _ r _ ((X.map Rw.val).set i (.slice a' (x.R.take k ++ (d, n) :: x.R.drop k).length cap')).toArray
    rw [hlen]; exact h2
  · rw [List.length_set, I_set]; exact h.len
  · rw [I_set]; exact h1.items.off im_int h1.noInt hg
  · by_cases q : j = i
    · subst q
      rw [List.getElem?_set, if_pos rfl, if_pos (List.getElem?_eq_some_iff.1 hx).1] at hy
      obtain rfl := Option.some.inj hy
      refine ⟨hR.off pr_int h1.noInt hg, by show _ ≤ cap'; rw [hlen]; exact hc, ?_⟩
      rw [hS]
      exact (h.ok j x hx).2.2.put hp d1 ht
    · rw [List.getElem?_set_ne (fun e => q e.symm)] at hy
      refine ⟨((h1.ok j y hy).1).off pr_int h1.noInt hg, (h1.ok j y hy).2.1, ?_⟩
      rw [hS]
      exact (h1.ok j y hy).2.2.other (fun e => q (by omega))
end
end Go.Proofs.YtklaonoekmhakaaGreat

namespace Go.Proofs.YtklaonoekmhakaaGreat
open Go.RowKit

set_option maxHeartbeats 400000 in
theorem has_cells {w : World} {p n : Nat} {qa : Option Addr} {qc : Nat} (i : Int) (h0 : w.cell? ⟨p, 0, none⟩ = some (.slice qa n qc)) :
    Calls Tryz.prog 147 #[.pointer (some ⟨p, 0, none⟩), .int .i64 i] w fun e w' => e = .returned (.bool (decide (0 ≤ i) && decide (i < (n : Int)))) ∧ w = w' := by
  by_cases h1 : 0 ≤ i
  · rw [decide_eq_true h1, Bool.true_and]
    go_enter Tryz.func147, Tryz.ntmps147
    go_wp2
    go_ret
    exact ⟨rfl, rfl⟩
  · rw [decide_eq_false h1, Bool.false_and]
    go_enter Tryz.func147, Tryz.ntmps147
    go_wp2
    go_ret
    exact ⟨rfl, rfl⟩
theorem bhas_any {w : World} {p r : Nat} {S : Bs} (i : Int) (h : Bk w p r S) : Calls Tryz.prog 147 #[.pointer (some ⟨p, 0, none⟩), .int .i64 i] w fun e w' => e = .returned (.bool (hasB S i)) ∧ w = w' := by
  obtain ⟨_, _, _, h⟩ := h
  exact has_cells i h.c0

set_option maxRecDepth 100000 in
set_option maxHeartbeats 4000000 in
theorem mayBe_any (x : Im) (w : World) : Calls Tryz.prog 63 #[x.val] w fun e w' => e = .returned (.bool (imB x)) ∧ Below w.heap.size w w' := by
  obtain ⟨t, g, m, q⟩ := x
  unfold Im.val
  show Calls Tryz.prog 63 #[.agg #[.int .i64 t, .int .i64 g, .int .i64 m, .int .i64 q]] w _
  by_cases h1 : 0 ≤ t
  · by_cases h2 : t ≤ 2
    · by_cases h3 : 0 ≤ g
      · by_cases h4 : g ≤ 99
        · by_cases h5 : 0 ≤ m
          · by_cases h6 : m ≤ 3
            · by_cases h7 : 1 ≤ q
              · rw [show imB ⟨t, g, m, q⟩ = true by simp [imB, h1, h2, h3, h4, h5, h6, h7]]
                go_enter Tryz.func63, Tryz.ntmps63
                go_wp2
                go_ret
                exact ⟨rfl, boxed _ _⟩
              · rw [show imB ⟨t, g, m, q⟩ = false by simp [imB, h1, h2, h3, h4, h5, h6, h7]]
                go_enter Tryz.func63, Tryz.ntmps63
                go_wp2
                go_ret
                exact ⟨rfl, boxed _ _⟩
            · rw [show imB ⟨t, g, m, q⟩ = false by simp [imB, h1, h2, h3, h4, h5, h6]]
              go_enter Tryz.func63, Tryz.ntmps63
              go_wp2
              go_ret
              exact ⟨rfl, boxed _ _⟩
          · rw [show imB ⟨t, g, m, q⟩ = false by simp [imB, h1, h2, h3, h4, h5]]
            go_enter Tryz.func63, Tryz.ntmps63
            go_wp2
            go_ret
            exact ⟨rfl, boxed _ _⟩
        · rw [show imB ⟨t, g, m, q⟩ = false by simp [imB, h1, h2, h3, h4]]
          go_enter Tryz.func63, Tryz.ntmps63
          go_wp2
          go_ret
          exact ⟨rfl, boxed _ _⟩
      · rw [show imB ⟨t, g, m, q⟩ = false by simp [imB, h1, h2, h3]]
        go_enter Tryz.func63, Tryz.ntmps63
        go_wp2
        go_ret
        exact ⟨rfl, boxed _ _⟩
    · rw [show imB ⟨t, g, m, q⟩ = false by simp [imB, h1, h2]]
      go_enter Tryz.func63, Tryz.ntmps63
      go_wp2
      go_ret
      exact ⟨rfl, boxed _ _⟩
  · rw [show imB ⟨t, g, m, q⟩ = false by simp [imB, h1]]
    go_enter Tryz.func63, Tryz.ntmps63
    go_wp2
    go_ret
    exact ⟨rfl, boxed _ _⟩

set_option maxHeartbeats 400000 in
theorem bclo_any (d : Int) (R : List (Int × Int)) (b o cap h : Nat) (e : Int × Int) (p q : Addr) (W : World) (hp : W.cell? p = some (.slice (some ⟨b, o, none⟩) R.length cap)) (hq : W.cell? q = some (.int .i64 d)) (hh : h < R.length) (he : W.cell? ⟨b, o + h * 2, none⟩ = some (.int .i64 e.1)) :
    Calls Tryz.prog 163 #[.int .i64 (h : Int), .pointer (some p), .pointer (some q)] W fun e' w' => e' = .returned (.bool (decide (d < e.1))) ∧ ∃ n, w' = W.drewN n := by
  go_enter Tryz.func163, Tryz.ntmps163
  go_wp2_with fail
  go_quiet (fail)
  go_wp2_with fail
  go_ret
  exact ⟨rfl, nq, rfl⟩

/-- what the search finds -/
def FoundP (w : World) (R : List (Int × Int)) (d : Int) (e : Ending) (w' : World) : Prop := ∃ k : Nat, Pl R d k ∧ e = .returned (.int .i64 (k : Int)) ∧ ∃ q, w' = w.drewN q
set_option maxRecDepth 100000 in
set_option maxHeartbeats 1000000 in
theorem bsearch_any (d : Int) (R : List (Int × Int)) (b o cap : Nat) (p q : Addr) (w : World) (hp : w.cell? p = some (.slice (some ⟨b, o, none⟩) R.length cap)) (hq : w.cell? q = some (.int .i64 d)) (hl : R.length ≤ 1000) (hR : PrA w (some ⟨b, o, none⟩) R) (hA : R.Pairwise fun a b => a.1 < b.1) :
    Calls Tryz.prog 162 #[.int .i64 (R.length : Int), .func (.func 163) #[] #[.pointer (some p), .pointer (some q)]] w (FoundP w R d) := by
  have HP := Lib.hid hp
  have HQ := Lib.hid hq
  have HR := Lib.hid hR
  have HA := Lib.hid hA
  obtain ⟨n, hn⟩ : ∃ n, n = R.length := ⟨_, rfl⟩
  have HN := Lib.hid hn
  rw [← hn] at hl ⊢
  clear hp hq hR hA hn
  go_enter Tryz.func162, Tryz.ntmps162
  go_wp2_with fail
  go_loopw [5, 6] (fun a b wr => ∃ i j : Nat, i ≤ j ∧ j ≤ n ∧ a = .int .i64 (i : Int) ∧ b = .int .i64 (j : Int) ∧ (∀ t e, t < i → R[t]? = some e → e.1 ≤ d) ∧ (∀ t e, j ≤ t → R[t]? = some e → d < e.1) ∧ ∃ q, wr = w.drewN q) (fun a b _ => (intOf b - intOf a).toNat)
  case atStart => exact ⟨0, n, by omega, by omega, rfl, rfl, fun t e h _ => by omega, fun t e h he => by have := (List.getElem?_eq_some_iff.1 he).1; rw [← HN.out] at this; omega, 0, rfl⟩
  case round =>
    obtain ⟨i, j, a1, a2, rfl, rfl, a3, a4, t, rfl⟩ := hrel
    have H3 := Lib.hid a3
    have H4 := Lib.hid a4
    clear a3 a4
    by_cases hlt : i < j
    · obtain ⟨W, hW⟩ : ∃ W, W = w.drewN t := ⟨_, rfl⟩
      have hp1 : W.cell? p = some (.slice (some ⟨b, o, none⟩) R.length cap) := by rw [hW]; exact HP.out
      have hq1 : W.cell? q = some (.int .i64 d) := by rw [hW]; exact HQ.out
      have hR1 : PrA W (some ⟨b, o, none⟩) R := by rw [hW]; exact HR.out.drewN t
      have HP1 := Lib.hid hp1
      have HQ1 := Lib.hid hq1
      have HR1 := Lib.hid hR1
      rw [← hW]
      have HW := Lib.hid hW
      clear hW hp1 hq1 hR1
      have g0 : ((i : Int) + (j : Int)) / 2 = (((i + j) / 2 : Nat) : Int) := by omega
      have G0 := Lib.hid g0
      clear g0
      go_wp2_with fail
      rw [G0.out]
      have g1 : i ≤ (i + j) / 2 := by omega
      have g2 : (i + j) / 2 < j := by omega
      obtain ⟨h, hh⟩ : ∃ h, h = (i + j) / 2 := ⟨_, rfl⟩
      rw [← hh] at g1 g2 ⊢
      clear hh G0
      have hRn : h < R.length := by rw [← HN.out]; omega
      obtain ⟨e, he⟩ : ∃ e, R[h]? = some e := ⟨R[h], List.getElem?_eq_getElem _⟩
      have hcell : W.cell? ⟨b, o + h * 2, none⟩ = some (.int .i64 e.1) := by
        rcases HR1.out with z | ⟨b', o', z, hz⟩
        · rw [z] at he; simp at he
        · injection z with z
          injection z with z1 z2
          subst z1; subst z2
          exact hz h e he 0 _ rfl
      refine (bclo_any d R b o cap h e p q W HP1.out HQ1.out hRn hcell).mono ?_
      rintro e' w1 ⟨rfl, q1, rfl⟩
      obtain ⟨q2, hq2⟩ : ∃ q2, W.drewN q1 = w.drewN q2 := ⟨_, by rw [HW.out, drewN_two]⟩
      rw [hq2]
      have HE := Lib.hid he
      clear hq2 HW HP1 HQ1 HR1 hcell he
      by_cases hn : d < e.1
      · have hb : decide (d < e.1) = true := decide_eq_true hn
        rw [hb]
        clear hb
        go_wp2_with fail
        go_roundw
        case rel =>
          refine ⟨i, h, by omega, by omega, rfl, rfl, H3.out, fun t y ht hy => ?_, q2, rfl⟩
          by_cases z : h = t
          · subst z; rw [HE.out] at hy; obtain rfl := Option.some.inj hy; exact hn
          · have := asc_get HA.out HE.out hy (by omega); omega
        case measure => simp [intOf]; omega
      · have hb : decide (d < e.1) = false := decide_eq_false hn
        rw [hb]
        clear hb
        go_wp2_with fail
        go_roundw
        case rel =>
          refine ⟨h + 1, j, by omega, by omega, by go_num, rfl, fun t y ht hy => ?_, H4.out, q2, rfl⟩
          by_cases z : t = h
          · subst z; rw [HE.out] at hy; obtain rfl := Option.some.inj hy; omega
          · have := asc_get HA.out hy HE.out (by omega); omega
        case measure => simp [intOf]; omega
    · obtain rfl : i = j := by omega
      have hz : ¬ i < i := by omega
      go_wp2_with fail
      go_ret
      exact ⟨i, ⟨by rw [← HN.out]; exact a2, H3.out, H4.out⟩, rfl, t, rfl⟩

/-- what behind finds -/
def BehR (w : World) (R : List (Int × Int)) (d : Int) (e : Ending) (w' : World) : Prop := ∃ k : Nat, Pl R d k ∧ e = .returned (.int .i64 (k : Int)) ∧ Below w.heap.size w w'
set_option maxRecDepth 100000 in
set_option maxHeartbeats 1000000 in
theorem behind_any (d : Int) (R : List (Int × Int)) (a : Option Addr) (cap : Nat) (w : World) (h1 : 1 ≤ R.length) (hl : R.length ≤ 1000) (hR : PrA w a R) (hA : R.Pairwise fun a b => a.1 < b.1) :
    Calls Tryz.prog 159 #[.slice a R.length cap, .int .i64 d] w (BehR w R d) := by
  obtain ⟨b, o, rfl⟩ : ∃ b o, a = some ⟨b, o, none⟩ := by
    rcases hR with z | ⟨b, o, z, _⟩
    · rw [z] at h1; simp at h1
    · exact ⟨b, o, z⟩
  have HR := Lib.hid hR
  have HA := Lib.hid hA
  obtain ⟨n, hn⟩ : ∃ n, n = R.length := ⟨_, rfl⟩
  have HN := Lib.hid hn
  rw [← hn] at hl h1 ⊢
  have HS : Hid (∀ (p q : Addr) (W : World), Below w.heap.size w W → W.cell? p = some (.slice (some ⟨b, o, none⟩) n cap) → W.cell? q = some (.int .i64 d) → Calls Tryz.prog 162 #[.int .i64 (n : Int), .func (.func 163) #[] #[.pointer (some p), .pointer (some q)]] W (FoundP W R d)) := fun p q W hb h0 h1 => by
    rw [hn] at h0 ⊢
    exact bsearch_any d R b o cap p q W h0 h1 (by rw [← hn]; exact hl) (hR.up hb) hA
  clear hR hA hn
  have hbox : Below w.heap.size w ((w.alloc (.cells #[.slice (some ⟨b, o, none⟩) n cap] 115)).alloc (.cells #[.int .i64 d] 3)) := (boxed _ _).alloc (by simp) _
  have HB := Lib.hid hbox
  clear hbox
  go_enter Tryz.func159, Tryz.ntmps159
  go_wp2_with fail
  refine (HS.out _ _ _ HB.out (by simp [go_sem]) (by simp [go_sem])).mono ?_
  rintro e w1 ⟨k, hk, rfl, t, rfl⟩
  have HK := Lib.hid hk
  clear hk
  go_wp2_with fail
  go_ret
  exact ⟨k, HK.out, rfl, blw HB.out t⟩
end Go.Proofs.YtklaonoekmhakaaGreat
