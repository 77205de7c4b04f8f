/- move: a movement laid. -/
import Derived.Test.YtginbgclifdfiaaAcP
import Derived.Deep.OwnRows
namespace Go.Proofs.Ytginbgclifdfiaa
open Go.RowKit

/-- of the blocks that were there, none but these has turned -/
structure Kp (O : Nat → Prop) (w w' : World) : Prop where
  os : w'.os = w.os
  tape : w'.tape = w.tape
  output : w'.output = w.output
  size : w.heap.size ≤ w'.heap.size
  block : ∀ b, b < w.heap.size → ¬ O b → w'.heap[b]? = w.heap[b]?
theorem Kp.of {O : Nat → Prop} {w w' : World} (h : Below w.heap.size w w') : Kp O w w' := ⟨h.os, h.tape, h.output, h.size, fun b hb _ => h.block b hb⟩
theorem Kp.refl (O : Nat → Prop) (w : World) : Kp O w w := ⟨rfl, rfl, rfl, Nat.le_refl _, fun _ _ _ => rfl⟩
theorem Kp.trans {O O' : Nat → Prop} {w w1 w2 : World} (h : Kp O w w1) (k : Kp O' w1 w2) (hs : ∀ b, O' b → O b ∨ w.heap.size ≤ b) : Kp O w w2 :=
  ⟨k.os.trans h.os, k.tape.trans h.tape, k.output.trans h.output, Nat.le_trans h.size k.size, fun b hb hn =>
    (k.block b (Nat.lt_of_lt_of_le hb h.size) (fun q => (hs b q).elim hn (fun z => by omega))).trans (h.block b hb hn)⟩
theorem Kp.below {O : Nat → Prop} {w w' : World} {B : Nat} (h : Kp O w w') (hB : B ≤ w.heap.size) (hO : ∀ b, O b → B ≤ b) : Below B w w' :=
  ⟨h.os, h.tape, h.output, h.size, fun b hb => h.block b (by omega) (fun q => by have := hO b q; omega)⟩
theorem Kp.grown {O : Nat → Prop} {w w' : World} {row : Option Nat} (h : w.grownBy w' row) (hr : ∀ j, row = some j → O j ∨ w.heap.size ≤ j) : Kp O w w' :=
  ⟨h.os, h.tape, h.output, h.size, fun b hb hn => h.block b hb (fun e => (hr b e.symm).elim hn (fun z => by omega))⟩
theorem Kp.set {O : Nat → Prop} (w : World) (a : Addr) (v : Value) (hO : O a.block) : Kp O w (w.setCell a v) :=
  ⟨rfl, rfl, rfl, by simp [World.setCell], fun b _ hn => Below.heap_setCell w a v b (fun e => hn (e ▸ hO))⟩

def updF (f : Int → Int → Int → Int) (a c k x : Int) : Int → Int → Int → Int := fun a' c' q => if a' = a ∧ c' = c ∧ q = k then x else f a' c' q
theorem rowI_size (n : Nat) (g : Int → Int) : (rowI n g).size = n := by unfold rowI; simp
theorem rowI_set (n : Nat) (f : Int → Int → Int → Int) (a c : Int) (k : Nat) (x : Int) : (rowI n (f a c)).setIfInBounds k (.int .i64 x) = rowI n (updF f a c k x a c) := by
  apply Array.ext
  · simp [rowI_size]
  · intro i h1 h2
    rw [rowI_size] at h2
    have e1 := rowI_get (updF f a c k x a c) h2
    have e2 := rowI_get (f a c) h2
    rw [Array.getElem?_eq_getElem (by rw [rowI_size]; exact h2)] at e1 e2
    rw [Array.getElem_setIfInBounds (by rw [rowI_size]; exact h2)]
    injection e1 with e1; injection e2 with e2
    rw [e1]
    by_cases q : k = i
    · subst q; simp [updF]
    · rw [if_neg q, e2]
      unfold updF
      rw [if_neg (by omega)]
theorem rowI_other (n : Nat) (f : Int → Int → Int → Int) (a c k x a' c' : Int) (h : ¬ (a' = a ∧ c' = c)) : rowI n (updF f a c k x a' c') = rowI n (f a' c') := by
  unfold rowI
  congr 1
  refine List.map_congr_left fun i _ => ?_
  unfold updF
  rw [if_neg (fun q => h ⟨q.1, q.2.1⟩)]
theorem rowI_zero (n : Nat) : madeCells #[.int .i64 0] n = rowI n (fun _ => 0) := by
  apply Array.ext
  · simp [rowI_size, size_madeCells]
  · intro i h1 h2
    rw [rowI_size] at h2
    have e1 := rowI_get (fun _ => 0) h2
    rw [Array.getElem?_eq_getElem (by rw [rowI_size]; exact h2)] at e1
    injection e1 with e1
    rw [e1]
    simp [madeCells, Nat.mod_one]

section
variable {w w' : World} {p m : Nat} {S : Ld} {f : Int → Int → Int → Int} {ve : Value} {vs : List Value} {rows : List (Int × Int × Nat)} {O : Nat → Prop}
/-- of one place there is one row -/
theorem Tbl.only {n : Nat} (h : Tbl w m n f rows) {x y : Int × Int × Nat} (hx : x ∈ rows) (hy : y ∈ rows) (e : x.1 = y.1 ∧ x.2.1 = y.2.1) : x = y := by
  have hn : (rows.map fun x => (x.1, x.2.1)).Nodup := by
    have := h.map.apart
    rw [List.map_map] at this
    refine List.Pairwise.of_map (fun q : Int × Int => plV q.1 q.2) ?_ (by rw [List.map_map]; exact this)
    intro a b hn e; exact hn (by rw [e])
  clear h
  induction rows with
  | nil => simp at hx
  | cons z l ih =>
    rw [List.map_cons, List.nodup_cons] at hn
    rcases List.mem_cons.1 hx with ex | hx'
    · rcases List.mem_cons.1 hy with ey | hy'
      · rw [ex, ey]
      · exact absurd (List.mem_map.2 ⟨y, hy', by rw [← ex, e.1, e.2]⟩) hn.1
    · rcases List.mem_cons.1 hy with ey | hy'
      · exact absurd (List.mem_map.2 ⟨x, hx', by rw [← ey, e.1, e.2]⟩) hn.1
      · exact ih hx' hy' hn.2
theorem Tbl.blk {n : Nat} (h : Tbl w m n f rows) {x y : Int × Int × Nat} (hx : x ∈ rows) (hy : y ∈ rows) (e : x.2.2 = y.2.2) : x = y := by
  have hn := h.apart
  clear h
  induction rows with
  | nil => simp at hx
  | cons z l ih =>
    rw [List.map_cons, List.nodup_cons] at hn
    rcases List.mem_cons.1 hx with ex | hx'
    · rcases List.mem_cons.1 hy with ey | hy'
      · rw [ex, ey]
      · exact absurd (List.mem_map.2 ⟨y, hy', by rw [← ex, e]⟩) hn.1
    · rcases List.mem_cons.1 hy with ey | hy'
      · exact absurd (List.mem_map.2 ⟨x, hx', by rw [← ey, e]⟩) hn.1
      · exact ih hx' hy' hn.2
theorem setCell_heap (w : World) (a : Addr) (v : Value) (b : Nat) (h : b ≠ a.block) : (w.setCell a v).heap[b]? = w.heap[b]? := Below.heap_setCell w a v b h
/-- a store into a row -/
theorem Tbl.store {n : Nat} {a c : Int} {g k : Nat} (x : Int) (h : Tbl w m n f rows) (hr : (a, c, g) ∈ rows) : Tbl (w.setCell ⟨g, k, none⟩ (.int .i64 x)) m n (updF f a c k x) rows := by
  have hg := h.row _ hr
  have hm : m ≠ g := fun e => by
    obtain ⟨es, cl, h1, _⟩ := h.map
    have := h1.heap
    unfold Has at hg
    rw [e] at this
    simp only at hg
    rw [this] at hg; cases hg
  refine ⟨h.map.keep (setCell_heap _ _ _ _ hm), fun y hy => ?_, h.apart, fun a' c' hn q h0 h1 => ?_⟩
  · by_cases e : y.2.2 = g
    · have := h.blk hy hr e
      subst this
      have := (h.row _ hr).put k (.int .i64 x)
      rw [rowI_set] at this
      exact this
    · have hk : ¬ (y.1 = a ∧ y.2.1 = c) := fun q => e (by rw [h.only hy hr q])
      rw [rowI_other n f a c k x _ _ hk]
      exact (h.row y hy).off (p := ⟨g, k, none⟩) e _
  · unfold updF
    by_cases e : a' = a ∧ c' = c ∧ q = k
    · exact absurd ⟨e.1.symm, e.2.1.symm⟩ (hn _ hr)
    · rw [if_neg e]; exact h.zero a' c' hn q h0 h1
/-- a row more, of noughts -/
theorem Tbl.more {n : Nat} {a c : Int} {g : Nat} {l' : List (Value × Value)} (h : Tbl w m n f rows) (hno : ∀ x ∈ rows, ¬ (x.1 = a ∧ x.2.1 = c)) (hz : ∀ q : Int, 0 ≤ q → q < n → f a c q = 0)
    (hg : w.heap.size ≤ g) {W w5 : World} (hb : Below w.heap.size w W) (hgr : Has W g 2 (rowI n fun _ => 0)) (hp : Put (rows.map fun x => (plV x.1 x.2.1, .slice (some ⟨x.2.2, 0, none⟩) n n)) (plV a c) (.slice (some ⟨g, 0, none⟩) n n) l')
    (hm : Mp Try.prog 73 w5 m l') (h5 : W.grownBy w5 (some m)) : Tbl w5 m n f (rows ++ [(a, c, g)]) := by
  have hml := h.map.lt
  rcases hp with ⟨_, rfl⟩ | ⟨l1, v0, l2, e, _⟩
  · refine ⟨by rw [List.map_append]; exact hm, fun y hy => ?_, ?_, fun a' c' hn q h0 h1 => h.zero a' c' (fun x hx => hn x (by simp [hx])) q h0 h1⟩
    · rcases List.mem_append.1 hy with hy | hy
      · have hh := h.row y hy
        have hne : y.2.2 ≠ m := fun e => by
          obtain ⟨es, cl, h1, _⟩ := h.map
          have := h1.heap
          unfold Has at hh
          rw [e, this] at hh; cases hh
        exact (h5.block _ (Nat.lt_of_lt_of_le hh.lt hb.size) (fun e => hne (by injection e))).trans (hh.up hb)
      · rw [List.mem_singleton.1 hy]
        have e0 : rowI n (f a c) = rowI n (fun _ => 0) := by
          unfold rowI
          congr 1
          refine List.map_congr_left fun i hi => ?_
          rw [hz i (by omega) (by have := List.mem_range.1 hi; omega)]
        show Has w5 g _ (rowI n (f a c))
        rw [e0]
        exact (h5.block _ hgr.lt (fun e => by injection e with e; omega)).trans hgr
    · rw [List.map_append, List.nodup_append]
      refine ⟨h.apart, by simp, fun b hb' b' hb'' => ?_⟩
      obtain ⟨y, hy, rfl⟩ := List.mem_map.1 hb'
      have := (h.row y hy).lt
      simp at hb''
      omega
  · exfalso
    have : (plV a c, v0) ∈ rows.map fun x => (plV x.1 x.2.1, Value.slice (some ⟨x.2.2, 0, none⟩) n n) := by rw [e]; simp
    obtain ⟨y, hy, e1⟩ := List.mem_map.1 this
    injection e1 with e1 _
    unfold plV at e1
    injection e1 with e1
    simp at e1
    exact hno y hy e1
end
end Go.Proofs.Ytginbgclifdfiaa
