/- A book of a call's own; awake; large. -/
import Derived.Test.YtjmgncjadfhmcaaBoF
namespace Go.Proofs.Ytjmgncjadfhmcaa
open Go.RowKit

/-- a book of a call's own, on its way -/
structure Sb (w0 w : World) (p r : Nat) (S : Bs) : Prop where
  bk : Bk w p r S
  bel : Below w0.heap.size w0 w
  lo : w0.heap.size ≤ r
section
variable {w0 w w' : World} {p r : Nat} {S : Bs}
theorem Sb.up (h : Sb w0 w p r S) (q : Below w.heap.size w w') : Sb w0 w' p r S := ⟨h.bk.up q, up2 h.bel q, h.lo⟩
theorem Sb.of {i d n : Int} {e : Ending} (h : Sb w0 w p r S) (q : SetR w p r S i d n e w') : Sb w0 w' p r (setS S i d n) :=
  ⟨q.2.1, h.bel.grown q.2.2 h.bel.size (fun j hj => by injection hj with hj; have := h.lo; omega), h.lo⟩
end
/-- what New answers where it makes a book -/
theorem bnew_yes (a : Option Addr) (n cap : Nat) (I : List Im) (w : World) (hn : I.length = n) (hI : ItA w a I) (ha : a = none → cap = 0) (hp : ∀ x ∈ I, Am x.pri) (hE : bnewE I = 0) :
    Calls Try.prog 7 #[.slice a n cap] w fun e w' => ∃ p r, e = .returned (.tuple #[.pointer (some ⟨p, 0, none⟩), .int .i64 0]) ∧ Sb w w' p r ⟨I, []⟩ := by
  refine (bnew_any a n cap I w hn hI ha hp).mono ?_
  rintro e w' (⟨h, _⟩ | ⟨_, p, r, h1, h2, h3, h4⟩)
  · exact absurd hE h
  · exact ⟨p, r, h1, h2, h3, h4⟩
theorem bnew_no (a : Option Addr) (n cap : Nat) (I : List Im) (w : World) (hn : I.length = n) (hI : ItA w a I) (ha : a = none → cap = 0) (hp : ∀ x ∈ I, Am x.pri) {E : Int} (hE : bnewE I = E) (h0 : E ≠ 0) :
    Calls Try.prog 7 #[.slice a n cap] w fun e w' => e = .returned (.tuple #[.pointer none, .int .i64 E]) ∧ Below w.heap.size w w' := by
  refine (bnew_any a n cap I w hn hI ha hp).mono ?_
  rintro e w' (⟨_, h1, h2⟩ | ⟨h, _⟩)
  · rw [hE] at h1; exact ⟨h1, h2⟩
  · exact absurd (hE.symm.trans h) h0
theorem ita_fresh (w : World) (I : List Im) (cs : Array Value) (hcs : cs = (I.flatMap Im.cells).toArray) : ItA (w.alloc (.cells cs 50)) (some ⟨w.heap.size, 0, none⟩) I := by
  subst hcs
  refine .inr ⟨_, _, rfl, fun i x hx j v hv => ?_⟩
  rw [(Has.fresh w 50 (I.flatMap Im.cells).toArray).cell, List.getElem?_toArray, Nat.zero_add]
  exact flat_at im_len I i j x v hx hv
theorem lna_fresh (w : World) (x : Ln) : LnA (w.alloc (.cells #[.int .i64 x.it, .int .i64 x.un, .int .i64 x.ch, .int .i64 x.fi, .int .i64 x.la] 45)) (some ⟨w.heap.size, 0, none⟩) [x] := by
  refine .inr ⟨_, _, rfl, fun i y hy j v hv => ?_⟩
  match i, hy with
  | 0, hy =>
    obtain rfl : x = y := by simpa using hy
    rw [show 0 + 0 * 5 + j = j by omega, (Has.fresh w 45 #[.int .i64 x.it, .int .i64 x.un, .int .i64 x.ch, .int .i64 x.fi, .int .i64 x.la]).cell]
    exact (List.getElem?_toArray (xs := Ln.cells x) (i := j)).trans hv
def aI : List Im := [⟨0, 0, 0, 100⟩]
def aS0 : Bs := ⟨aI, []⟩
def aS1 : Bs := ⟨aI, [⟨0, 10, 120⟩]⟩
def aX : Ln := ⟨0, 3, 0, 1, 1⟩
theorem ak0 : bnewE aI = 0 ∧ bnewE [⟨0, 0, 0, 0⟩] = 1 := ⟨rfl, rfl⟩
theorem ak1 : setE aS0 0 10 120 = 0 ∧ setS aS0 0 10 120 = aS1 := ⟨rfl, rfl⟩
theorem ak2 : setE aS1 0 10 130 = 6 ∧ setS aS1 0 10 130 = aS1 := ⟨rfl, rfl⟩
theorem ak3 : priV aS1 0 9 = 100 ∧ priE aS1 0 9 = 0 ∧ priV aS1 0 10 = 120 ∧ priE aS1 0 10 = 0 ∧ priV aS1 1 10 = 0 ∧ priE aS1 1 10 = 5 := ⟨rfl, rfl, rfl, rfl, rfl, rfl⟩
theorem ak4 : aloV aS1 aX 11 = 360 ∧ aloE aS1 aX 11 = 0 := ⟨rfl, rfl⟩
theorem ak5 : itV aS1 0 = ⟨0, 0, 0, 100⟩ ∧ hasB aS1 0 = true := ⟨rfl, rfl⟩
theorem ak6 : chkE aS1 [aX] = 0 ∧ chkE aS1 [] = 1 := ⟨rfl, rfl⟩
end Go.Proofs.Ytjmgncjadfhmcaa
