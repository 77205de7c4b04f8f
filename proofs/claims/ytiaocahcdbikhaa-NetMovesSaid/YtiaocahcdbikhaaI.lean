/- Contracts: Sum. -/
import Derived.Test.YtiaocahcdbikhaaH
namespace Go.Proofs.Ytiaocahcdbikhaa
open Go.RowKit

/-- the sum of the first ones of a row of numbers -/
def sumTo (f : Nat → Int) : Nat → Int
  | 0 => 0
  | k + 1 => sumTo f k + f k
def Amounts (f : Nat → Int) : Prop := ∀ k, -9223372036854775808 ≤ f k ∧ f k ≤ 9223372036854775807
theorem sum_bd {f : Nat → Int} (hf : Amounts f) (k : Nat) : -9223372036854775808 * (k : Int) ≤ sumTo f k ∧ sumTo f k ≤ 9223372036854775808 * (k : Int) := by
  induction k with
  | zero => simp [sumTo]
  | succ k ih => have h := hf k; simp only [sumTo]; omega
theorem sum_ok {f : Nat → Int} (hf : Amounts f) {k : Nat} (hk : k ≤ 1048576) : wideOk (sumTo f k) := by
  have h := sum_bd hf k; unfold wideOk; omega

/-- two cells in a row that may be written -/
def Row2 (W : World) (p : Nat) (x y : Value) : Prop :=
  W.cell? ⟨p, 0, none⟩ = some x ∧ W.cell? ⟨p, 1, none⟩ = some y ∧ W.frozen? ⟨p, 0, none⟩ = false ∧ W.frozen? ⟨p, 1, none⟩ = false
theorem Row2.lt {W : World} {p : Nat} {x y : Value} (h : Row2 W p x y) : p < W.heap.size := World.block_lt_of_cell? (a := ⟨p, 0, none⟩) _ h.1
theorem Row2.drew {W : World} {p : Nat} {x y : Value} (h : Row2 W p x y) : Row2 W.drew p x y := h
theorem Row2.below {W W' : World} {p : Nat} {x y : Value} (h : Row2 W p x y) (hb : Below W.heap.size W W') : Row2 W' p x y :=
  have l := h.lt
  ⟨kcell hb h.1, kcell hb h.2.1, (hb.frozen (p := ⟨p, 0, none⟩) l).trans h.2.2.1, (hb.frozen (p := ⟨p, 1, none⟩) l).trans h.2.2.2⟩
theorem Row2.put {W : World} {p : Nat} {x y : Value} (h : Row2 W p x y) (x' y' : Value) : Row2 ((W.setCell ⟨p, 0, none⟩ x').setCell ⟨p, 1, none⟩ y') p x' y' := by
  obtain ⟨h0, h1, f0, f1⟩ := h
  unfold Row2; simp [go_sem, h0, h1, f0, f1]
theorem Row2.new (W : World) (x y : Value) (t : Nat) : Row2 (W.alloc (.cells #[x, y] t)) W.heap.size x y := by
  unfold Row2; simp [go_sem]

/-- what holds at the loop's head -/
def SumAt (w : World) (v : Int) (wr : World) : Prop := Below w.heap.size w wr ∧ Row2 wr w.heap.size (.int .u64 (hiW v)) (.int .u64 (loW v))
theorem SumAt.drew {w : World} {v : Int} {wr : World} (h : SumAt w v wr) : SumAt w v wr.drew := ⟨h.1.drew, h.2⟩
theorem SumAt.below {w : World} {v : Int} {wr w1 : World} (h : SumAt w v wr) (hb : Below wr.heap.size wr w1) : SumAt w v w1 :=
  ⟨h.1.trans (hb.mono (by have := h.2.lt; omega)), h.2.below hb⟩
theorem SumAt.put {w : World} {v : Int} {wr : World} (h : SumAt w v wr) (u : Int) : SumAt w u ((wr.setCell ⟨w.heap.size, 0, none⟩ (.int .u64 (hiW u))).setCell ⟨w.heap.size, 1, none⟩ (.int .u64 (loW u))) :=
  ⟨(h.1.setCell (Nat.le_refl _) _).setCell (Nat.le_refl _) _, h.2.put _ _⟩
theorem SumAt.start (w : World) : SumAt w 0 (w.alloc (.cells #[.int .u64 0, .int .u64 0] 56)) := ⟨(Below.refl _ _).alloc (Nat.le_refl _) _, Row2.new _ _ _ _⟩

set_option maxHeartbeats 400000 in
theorem sum_some (f : Nat → Int) (hf : Amounts f) (b off len cap : Nat) (w : World) (hl : len ≤ 1048576) (hc : ∀ k, k < len → w.cell? ⟨b, off + k, none⟩ = some (.int .i64 (f k))) :
    Calls Try.prog 14 #[.slice (some ⟨b, off, none⟩) len cap] w fun e w' => e = .returned (.tuple #[.int .i64 (tellV (sumTo f len)), .int .i64 (tellE (sumTo f len))]) ∧ Below w.heap.size w w' := by
  have HC := Lib.hid hc
  have HF := Lib.hid hf
  clear hc hf
  go_enter Try.func14, Try.ntmps14
  go_wp2_with fail
  go_loopw [6, 9] (fun _ i wr => ∃ k : Nat, k ≤ len ∧ i = .int .i64 k ∧ SumAt w (sumTo f k) wr) (fun _ i _ => len - (intOf i).toNat)
  case atStart => exact ⟨0, Nat.zero_le _, rfl, SumAt.start w⟩
  case round =>
    obtain ⟨k, hk, rfl, hS⟩ := hrel
    have HS := Lib.hid hS
    clear hS
    by_cases hlt : k < len
    · have hcell : wr.cell? ⟨b, off + k, none⟩ = some (.int .i64 (f k)) :=
        (HS.out.1.cell (p := ⟨b, off + k, none⟩) (World.block_lt_of_cell? (a := ⟨b, off + k, none⟩) _ (HC.out k hlt))).trans (HC.out k hlt)
      obtain ⟨f1, f2⟩ := HF.out k
      obtain ⟨c0, c1, e0, e1⟩ := HS.out.2
      go_wp2_with fail
      go_region_with (first | (go_at_call 24; ((with_reducible refine (widen_any (f k) _ f1 f2).mono ?_); rintro e w1 ⟨rfl, hb1⟩; have kS1 := Lib.hid (HS.out.drew.below hb1); obtain ⟨x0, x1, y0, y1⟩ := kS1.out.2)) | (go_at_call 23; ((with_reducible refine (plus_any (sumTo f k) (f k) _).mono ?_); rintro e w2 ⟨rfl, hb2⟩; have kS2 := Lib.hid (kS1.out.below hb2); obtain ⟨z0, z1, t0, t1⟩ := kS2.out.2)))
      all_goals
        go_wp2_with fail
        go_roundw
        case rel => exact ⟨k + 1, by omega, by go_num, kS2.out.put (sumTo f (k + 1))⟩
        case measure => simp [intOf]; omega
    · obtain ⟨c0, c1, e0, e1⟩ := HS.out.2
      have hke : k = len := by omega
      subst hke
      go_wp2_with fail
      refine (narrow_any (sumTo f k) _ (sum_ok HF.out hl)).mono ?_
      rintro e w2 ⟨rfl, hb2⟩
      go_wp2_with fail
      go_ret2
      exact ⟨rfl, HS.out.1.trans (hb2.mono (by have := HS.out.2.lt; omega))⟩

end Go.Proofs.Ytiaocahcdbikhaa
