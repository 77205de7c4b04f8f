/- Contracts: Sum. -/
import Derived.Test.YtobdcogaphkogaaH
namespace Go.Proofs.Ytobdcogaphkogaa
open Go.RowKit

/-- the sum of the first ones of a row of numbers -/
def sumTo (f : Nat → Int) : Nat → Int
  | 0 => 0
  | k + 1 => sumTo f k + f k
def Amounts (f : Nat → Int) : Prop := ∀ k, -9223372036854775808 ≤ f k ∧ f k ≤ 9223372036854775807
theorem sum_bd {f : Nat → Int} (hf : Amounts f) (k : Nat) : -9223372036854775808 * (k : Int) ≤ sumTo f k ∧ sumTo f k ≤ 9223372036854775808 * (k : Int) := by
  induction k with
  | zero => simp [sumTo]
  | succ k ih => have h := hf k; simp only [sumTo]; omega
theorem sum_ok {f : Nat → Int} (hf : Amounts f) {k : Nat} (hk : k ≤ 1048576) : wideOk (sumTo f k) := by
  have h := sum_bd hf k; unfold wideOk; omega

/-- two cells in a row that may be written -/
def Row2 (W : World) (p : Nat) (x y : Value) : Prop :=
  W.cell? ⟨p, 0, none⟩ = some x ∧ W.cell? ⟨p, 1, none⟩ = some y ∧ W.frozen? ⟨p, 0, none⟩ = false ∧ W.frozen? ⟨p, 1, none⟩ = false
theorem Row2.lt {W : World} {p : Nat} {x y : Value} (h : Row2 W p x y) : p < W.heap.size := World.block_lt_of_cell? (a := ⟨p, 0, none⟩) _ h.1
theorem Row2.drew {W : World} {p : Nat} {x y : Value} (h : Row2 W p x y) : Row2 W.drew p x y := h
theorem Row2.below {W W' : World} {p : Nat} {x y : Value} (h : Row2 W p x y) (hb : Below W.heap.size W W') : Row2 W' p x y :=
  have l := h.lt
  ⟨kcell hb h.1, kcell hb h.2.1, (hb.frozen (p := ⟨p, 0, none⟩) l).trans h.2.2.1, (hb.frozen (p := ⟨p, 1, none⟩) l).trans h.2.2.2⟩
theorem Row2.put {W : World} {p : Nat} {x y : Value} (h : Row2 W p x y) (x' y' : Value) : Row2 ((W.setCell ⟨p, 0, none⟩ x').setCell ⟨p, 1, none⟩ y') p x' y' := by
  obtain ⟨h0, h1, f0, f1⟩ := h
  unfold Row2; simp [go_sem, h0, h1, f0, f1]
theorem Row2.new (W : World) (x y : Value) (t : Nat) : Row2 (W.alloc (.cells #[x, y] t)) W.heap.size x y := by
  unfold Row2; simp [go_sem]

/-- what holds at the loop's head -/
def SumAt (w : World) (v : Int) (wr : World) : Prop := Below w.heap.size w wr ∧ Row2 wr w.heap.size (.int .u64 (hiW v)) (.int .u64 (loW v))
theorem SumAt.drew {w : World} {v : Int} {wr : World} (h : SumAt w v wr) : SumAt w v wr.drew := ⟨h.1.drew, h.2⟩
theorem SumAt.below {w : World} {v : Int} {wr w1 : World} (h : SumAt w v wr) (hb : Below wr.heap.size wr w1) : SumAt w v w1 :=
  ⟨h.1.trans (hb.mono (by have := h.2.lt; omega)), h.2.below hb⟩
theorem SumAt.put {w : World} {v : Int} {wr : World} (h : SumAt w v wr) (u : Int) : SumAt w u ((wr.setCell ⟨w.heap.size, 0, none⟩ (.int .u64 (hiW u))).setCell ⟨w.heap.size, 1, none⟩ (.int .u64 (loW u))) :=
  ⟨(h.1.setCell (Nat.le_refl _) _).setCell (Nat.le_refl _) _, h.2.put _ _⟩
theorem SumAt.start (w : World) : SumAt w 0 (w.alloc (.cells #[.int .u64 0, .int .u64 0] 98)) := ⟨(Below.refl _ _).alloc (Nat.le_refl _) _, Row2.new _ _ _ _⟩

end Go.Proofs.Ytobdcogaphkogaa
