/- What every walk of this seat's leans on: worlds, cells, bounds. -/
import Derived.Test.YtjffcgimdffkoaaGreatDoorProg
import Derived.WalkKit
import Derived.WalkSpells
import Derived.WalkLawsBesides
import Derived.Laws.Externs
import Derived.Deep.RegionHeld3
import Derived.Deep.QuietTactic
import Derived.Deep.DeepCutAuto
import Derived.BigQuiet
import Derived.BigRegion
import Derived.IntWalk
import Derived.Lib.Hide
import Derived.Outline
import Derived.Lib.SlBytesRow
import Derived.Lib.BufferWrite
import Derived.Laws.Rows
import Derived.Laws.MakeOwn
namespace Go.Proofs.YtjffcgimdffkoaaGreatDoor
open Go.RowKit

/-- an integer of 64 bits -/
def Am (a : Int) : Prop := -9223372036854775808 ≤ a ∧ a ≤ 9223372036854775807
theorem am_small {a : Int} (h0 : -1000000 ≤ a) (h1 : a ≤ 1000000) : Am a := by unfold Am; omega

theorem kcell {W w1 : World} {p : Addr} {v : Value} (hb : Below W.heap.size W w1) (h : W.cell? p = some v) : w1.cell? p = some v :=
  (hb.cell (World.block_lt_of_cell? _ _ h)).trans h
theorem up2 {w W W' : World} (h : Below w.heap.size w W) (k : Below W.heap.size W W') : Below w.heap.size w W' := h.trans (k.mono h.size)
theorem boxed (w : World) (o : Obj) : Below w.heap.size w (w.alloc o) := (Below.refl _ _).alloc (Nat.le_refl _) _
theorem blw {B : Nat} {x y : World} (h : Below B x y) (n : Nat) : Below B x (y.drewN n) := ⟨h.os, h.tape, h.output, h.size, h.block⟩
theorem drewN_two (w : World) (a b : Nat) : (w.drewN a).drewN b = w.drewN (a + b) := by simp [World.drewN, Nat.add_assoc]
theorem quiet_left {P : Program} {f : FuncId} {args : Array Value} {w : World} {n : Nat} {v : Value}
    (h : Calls P f args (w.drewN n) fun e w' => e = .returned v ∧ w.drewN n = w') : Calls P f args (w.drewN n) fun e w'' => e = .returned v ∧ ∃ m, w'' = w.drewN m :=
  h.mono fun _ _ ⟨he, hm⟩ => ⟨he, n, hm.symm⟩
theorem same_below {P : Program} {f : FuncId} {xs : Array Value} {w : World} {x : Ending} (h : Calls P f xs w fun e w' => e = x ∧ w = w') : Calls P f xs w fun e w' => e = x ∧ Below w.heap.size w w' :=
  h.mono fun _ _ ⟨a, b⟩ => ⟨a, by rw [← b]; exact Below.refl _ _⟩
/-- a store leaves other cells, and marks, as they were -/
theorem cset {W : World} {b o c k : Nat} {x v : Value} (h : W.cell? ⟨c, k, none⟩ = some v) (e : c ≠ b ∨ k ≠ o) : (W.setCell ⟨b, o, none⟩ x).cell? ⟨c, k, none⟩ = some v := by
  rw [World.cell?_setCell_other _ _ _ _ (by intro q; injection q; omega)]; exact h
theorem csame {W : World} {b o : Nat} {x v : Value} (h : W.cell? ⟨b, o, none⟩ = some v) : (W.setCell ⟨b, o, none⟩ x).cell? ⟨b, o, none⟩ = some x :=
  World.cell?_setCell_same' _ _ _ (by rw [h]; rfl)
theorem fset {W : World} {b o c k : Nat} {x : Value} {f : Bool} (h : W.frozen? ⟨c, k, none⟩ = f) : (W.setCell ⟨b, o, none⟩ x).frozen? ⟨c, k, none⟩ = f := by
  rw [World.frozen?_setCell]; exact h
end Go.Proofs.YtjffcgimdffkoaaGreatDoor

namespace Go.Proofs.YtjffcgimdffkoaaGreatDoor
open Go.RowKit

/-- so many bytes 0 -/
def zs (k : Nat) : ByteArray := ⟨Array.replicate k 0⟩
theorem zs_size (k : Nat) : (zs k).size = k := by simp [zs, ByteArray.size]

/-- what a store holds: how many blocks, their bytes, power, the fuse, the writes that were fine -/
structure SS where
  n : Nat
  B : Nat → ByteArray
  pw : Bool
  ld : Bool
  fw : Int
  ft : Int
  mn : Int

/-- a store as it may be, behind at most m writes -/
structure Fine (s : SS) (m : Int) : Prop where
  lo : 3 ≤ s.n
  hi : s.n ≤ 4096
  sz : ∀ i, i < s.n → (s.B i).size = 64
  fw : 0 ≤ s.fw ∧ s.fw ≤ 9223372036854775807
  ft : 0 ≤ s.ft ∧ s.ft ≤ 64
  mn : 0 ≤ s.mn ∧ s.mn ≤ m

def upd (B : Nat → ByteArray) (k : Nat) (x : ByteArray) : Nat → ByteArray := fun i => if i = k then x else B i
theorem upd_at (B : Nat → ByteArray) (k : Nat) (x : ByteArray) : upd B k x k = x := if_pos rfl
theorem upd_far (B : Nat → ByteArray) {k i : Nat} (x : ByteArray) (h : i ≠ k) : upd B k x i = B i := if_neg h

/-- the beginning of x, with the end of y -/
def torn (x y : ByteArray) (t : Nat) : ByteArray := x.extract 0 t ++ y.extract t y.size
theorem torn_size {x y : ByteArray} {t : Nat} (hx : x.size = 64) (hy : y.size = 64) (ht : t ≤ 64) : (torn x y t).size = 64 := by
  unfold torn
  simp [ByteArray.size_append, ByteArray.size_extract, hx, hy]; omega

def inR (s : SS) (a : Int) (x : ByteArray) : Prop := 0 ≤ a ∧ a < s.n ∧ x.size = 64
instance (s : SS) (a : Int) (x : ByteArray) : Decidable (inR s a x) := inferInstanceAs (Decidable (_ ∧ _ ∧ _))

/-- the answer of a write -/
def wrE (s : SS) (a : Int) (x : ByteArray) : Int :=
  if inR s a x then (if s.pw = false then 9 else if s.ld = true ∧ s.fw = 0 then 9 else 0) else 1
/-- the store behind it -/
def wrS (s : SS) (a : Int) (x : ByteArray) : SS :=
  if inR s a x then
    (if s.pw = false then s
     else if s.ld = true ∧ s.fw = 0 then { s with B := upd s.B a.toNat (torn x (s.B a.toNat) s.ft.toNat), pw := false }
     else { s with B := upd s.B a.toNat x, fw := if s.ld = true then s.fw - 1 else s.fw, mn := s.mn + 1 })
  else s
/-- how many bytes a fuse lets through -/
def clamp (t : Int) : Int := if t < 0 then 0 else if 64 < t then 64 else t
theorem clamp_in (t : Int) : 0 ≤ clamp t ∧ clamp t ≤ 64 := by unfold clamp; split <;> (try split) <;> omega
def fuS (s : SS) (k t : Int) : SS := if k < 0 then { s with ld := false, fw := 0, ft := 0 } else { s with ld := true, fw := k, ft := clamp t }
def reS (s : SS) : SS := { s with pw := true, ld := false, fw := 0, ft := 0 }
def newS (n : Nat) : SS := ⟨n, fun _ => zs 64, true, false, 0, 0, 0⟩

theorem new_fine {n : Nat} (h : 3 ≤ n) (h' : n ≤ 4096) : Fine (newS n) 0 := ⟨h, h', fun _ _ => zs_size 64, by simp [newS], by simp [newS], by simp [newS]⟩
theorem Fine.more {s : SS} {m k : Int} (h : Fine s m) (e : m ≤ k) : Fine s k := ⟨h.lo, h.hi, h.sz, h.fw, h.ft, h.mn.1, by have := h.mn.2; omega⟩
theorem re_fine {s : SS} {m : Int} (h : Fine s m) : Fine (reS s) m := ⟨h.lo, h.hi, h.sz, by simp [reS], by simp [reS], h.mn⟩
theorem fu_fine {s : SS} {m k t : Int} (h : Fine s m) (hk : k ≤ 9223372036854775807) : Fine (fuS s k t) m := by
  unfold fuS
  split
  · exact ⟨h.lo, h.hi, h.sz, by simp, by simp, h.mn⟩
  · exact ⟨h.lo, h.hi, h.sz, ⟨by simp; omega, hk⟩, clamp_in t, h.mn⟩
theorem upd_size {B : Nat → ByteArray} {n k : Nat} {x : ByteArray} (h : ∀ i, i < n → (B i).size = 64) (hx : x.size = 64) : ∀ i, i < n → (upd B k x i).size = 64 := by
  intro i hi
  by_cases e : i = k
  · subst e; rw [upd_at]; exact hx
  · rw [upd_far _ _ e]; exact h i hi
theorem wr_n (s : SS) (a : Int) (x : ByteArray) : (wrS s a x).n = s.n := by
  unfold wrS; split <;> (try split) <;> (try split) <;> rfl
theorem fu_n (s : SS) (k t : Int) : (fuS s k t).n = s.n := by unfold fuS; split <;> rfl
theorem wr_fine {s : SS} {m a : Int} {x : ByteArray} (h : Fine s m) : Fine (wrS s a x) (m + 1) := by
  unfold wrS
  have hm := h.mn
  have hf := h.fw
  split
  · next q =>
    have ha : a.toNat < s.n := by unfold inR at q; omega
    split
    · exact h.more (by omega)
    · split
      · refine ⟨h.lo, h.hi, upd_size h.sz (torn_size q.2.2 (h.sz _ ha) (by have := h.ft; omega)), h.fw, h.ft, hm.1, by show s.mn ≤ _; omega⟩
      · next r =>
        refine ⟨h.lo, h.hi, upd_size h.sz q.2.2, ?_, h.ft, ?_, ?_⟩
        · show 0 ≤ (if s.ld = true then s.fw - 1 else s.fw) ∧ (if s.ld = true then s.fw - 1 else s.fw) ≤ 9223372036854775807
          split
          · next l => have : s.fw ≠ 0 := fun e => r ⟨l, e⟩
                      omega
          · exact hf
        · show 0 ≤ s.mn + 1; omega
        · show s.mn + 1 ≤ m + 1; omega
  · exact h.more (by omega)
end Go.Proofs.YtjffcgimdffkoaaGreatDoor

namespace Go.Proofs.YtjffcgimdffkoaaGreatDoor
open Go.RowKit

/-- block g holds just the cells cs, of type t -/
def Has (w : World) (g t : Nat) (cs : Array Value) : Prop := w.heap[g]? = some (.cells cs t (0, 0))
theorem Has.lt {w : World} {g t : Nat} {cs : Array Value} (h : Has w g t cs) : g < w.heap.size := by
  unfold Has at h
  by_cases q : g < w.heap.size
  · exact q
  · rw [Array.getElem?_eq_none (by omega)] at h; cases h
theorem Has.cell {w : World} {g t : Nat} {cs : Array Value} (h : Has w g t cs) (i : Nat) : w.cell? ⟨g, i, none⟩ = cs[i]? := cell_of_row w g i cs t (0, 0) h
theorem Has.free {w : World} {g t : Nat} {cs : Array Value} (h : Has w g t cs) (i : Nat) : w.frozen? ⟨g, i, none⟩ = false := frozen_of_row w g i cs t h
theorem Has.ne {w : World} {g t g' t' : Nat} {cs cs' : Array Value} (h : Has w g t cs) (h' : Has w g' t' cs') (q : t ≠ t') : g ≠ g' := by
  rintro rfl
  unfold Has at h h'
  rw [h] at h'
  injection h' with h'
  injection h' with _ e
  exact q e
theorem Has.put {w : World} {g t : Nat} {cs : Array Value} (h : Has w g t cs) (i : Nat) (v : Value) : Has (w.setCell ⟨g, i, none⟩ v) g t (cs.setIfInBounds i v) := heap_setCell_same w g i cs t v h
theorem Has.off {w : World} {g t : Nat} {cs : Array Value} (h : Has w g t cs) {p : Addr} (q : g ≠ p.block) (v : Value) : Has (w.setCell p v) g t cs := (heap_setCell_other w p g v q).trans h
theorem Has.more {w : World} {g t : Nat} {cs : Array Value} (h : Has w g t cs) (o : Obj) : Has (w.alloc o) g t cs := (heap_alloc_old w o h.lt).trans h
theorem Has.fresh (w : World) (t : Nat) (cs : Array Value) : Has (w.alloc (.cells cs t)) w.heap.size t cs := heap_alloc_new w _

theorem Has.up {w w' : World} {g t : Nat} {cs : Array Value} (h : Has w g t cs) (q : Below w.heap.size w w') : Has w' g t cs := (q.block g h.lt).trans h
end Go.Proofs.YtjffcgimdffkoaaGreatDoor
