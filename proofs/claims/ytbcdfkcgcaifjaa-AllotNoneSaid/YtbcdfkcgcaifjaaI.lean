/- Contracts: Part and Rest. -/
import Derived.Test.YtbcdfkcgcaifjaaG
namespace Go.Proofs.Ytbcdfkcgcaifjaa
open Go.RowKit

theorem mul_bd {a p : Int} (a1 : -9223372036854775808 ≤ a) (a2 : a ≤ 9223372036854775807) (p1 : 0 ≤ p) (p2 : p ≤ 9223372036854775807) :
    -85070591730234615865843651857942052864 ≤ a * p ∧ a * p ≤ 85070591730234615865843651857942052864 := by
  constructor
  · have h1 : -9223372036854775808 * p ≤ a * p := Int.mul_le_mul_of_nonneg_right a1 p1
    omega
  · have h1 : a * p ≤ 9223372036854775807 * p := Int.mul_le_mul_of_nonneg_right a2 p1
    omega
theorem part_ok {a p m : Int} (a1 : -9223372036854775808 ≤ a) (a2 : a ≤ 9223372036854775807) (p1 : 0 ≤ p) (p2 : p ≤ 9223372036854775807) (hm : 1 ≤ m) : wideOk (a * p / m) := by
  have h := mul_bd a1 a2 p1 p2
  have d := div_bd (x := a * p) (B := 85070591730234615865843651857942052864) hm (by omega) h.1 h.2
  unfold wideOk; omega

theorem field0 (x y z : Value) (w : World) : (Instr.field 74 (.agg #[x, y, z]) 0).run Try.prog w = .ok (.agg #[x, y]) w := by kernel_rfl
theorem field1 (x y z : Int) (w : World) : (Instr.field 74 (.agg #[.int .u64 x, .int .u64 y, .int .u64 z]) 1).run Try.prog w = .ok (.int .u64 z) w := by kernel_rfl

set_option maxHeartbeats 400000 in
theorem part_any (a part m : Int) (w : World) (a1 : -9223372036854775808 ≤ a) (a2 : a ≤ 9223372036854775807) (p1 : 0 ≤ part) (p2 : part ≤ 9223372036854775807) (hm : 1 ≤ m) (hm2 : m ≤ 9223372036854775807) :
    Calls Try.prog 48 #[.int .i64 a, .int .i64 part, .int .i64 m] w fun e w' => e = .returned (.tuple #[.int .i64 (tellV (a * part / m)), .int .i64 (tellE (a * part / m))]) ∧ Below w.heap.size w w' := by
  have HO := Lib.hid (part_ok a1 a2 p1 p2 hm)
  have hf := field0 (.int .u64 (hiW (a * part / m))) (.int .u64 (loW (a * part / m))) (.int .u64 (a * part % m))
  have d1 : decide (m < 1) = false := by simp; omega
  have d2 : decide (part < 0) = false := by simp; omega
  go_enter Try.func48, Try.ntmps48
  go_wp2_with fail
  refine (times_any a part m _ a1 a2 p1 p2 hm hm2).mono ?_
  rintro e w1 ⟨rfl, hb1⟩
  go_wp2_with fail
  refine (narrow_any (a * part / m) _ HO.out).mono ?_
  rintro e w2 ⟨rfl, hb2⟩
  go_wp2_with fail
  go_ret2
  have s1 := hb1.size
  exact ⟨rfl, hb1.trans (hb2.mono (by omega))⟩

set_option maxHeartbeats 400000 in
theorem part_no (a part m : Int) (w : World) (h : m < 1 ∨ part < 0) :
    Calls Try.prog 48 #[.int .i64 a, .int .i64 part, .int .i64 m] w fun e w' => e = .returned (.tuple #[.int .i64 0, .int .i64 1]) ∧ w = w' := by
  by_cases d1 : m < 1
  · have e1 : decide (m < 1) = true := by simp; omega
    go_enter Try.func48, Try.ntmps48
    go_wp2_with fail
    go_ret2
    exact ⟨rfl, rfl⟩
  · have e1 : decide (m < 1) = false := by simp; omega
    have e2 : decide (part < 0) = true := by simp; omega
    clear h
    go_enter Try.func48, Try.ntmps48
    go_wp2_with fail
    go_ret2
    exact ⟨rfl, rfl⟩

theorem wrap_i {n : Int} (h0 : -9223372036854775808 ≤ n) (h1 : n < 9223372036854775808) : IntKind.i64.wrap n = n := by
  rw [wrap_sgn, sgn]; omega

set_option maxHeartbeats 400000 in
theorem rest_any (a part m : Int) (w : World) (a1 : -9223372036854775808 ≤ a) (a2 : a ≤ 9223372036854775807) (p1 : 0 ≤ part) (p2 : part ≤ 9223372036854775807) (hm : 1 ≤ m) (hm2 : m ≤ 9223372036854775807) :
    Calls Try.prog 49 #[.int .i64 a, .int .i64 part, .int .i64 m] w fun e w' => e = .returned (.tuple #[.int .i64 (a * part % m), .int .i64 0]) ∧ Below w.heap.size w w' := by
  have hf := field1 (hiW (a * part / m)) (loW (a * part / m)) (a * part % m)
  have bx := Int.emod_nonneg (a * part) (b := m) (by omega)
  have cx := Int.emod_lt_of_pos (a * part) (b := m) (by omega)
  have hw := wrap_i (n := a * part % m) (by omega) (by omega)
  have d1 : decide (m < 1) = false := by simp; omega
  have d2 : decide (part < 0) = false := by simp; omega
  go_enter Try.func49, Try.ntmps49
  go_wp2_with fail
  refine (times_any a part m _ a1 a2 p1 p2 hm hm2).mono ?_
  rintro e w1 ⟨rfl, hb1⟩
  go_wp2_with fail
  go_ret2
  exact ⟨rfl, hb1⟩

set_option maxHeartbeats 400000 in
theorem rest_no (a part m : Int) (w : World) (h : m < 1 ∨ part < 0) :
    Calls Try.prog 49 #[.int .i64 a, .int .i64 part, .int .i64 m] w fun e w' => e = .returned (.tuple #[.int .i64 0, .int .i64 1]) ∧ w = w' := by
  by_cases d1 : m < 1
  · have e1 : decide (m < 1) = true := by simp; omega
    go_enter Try.func49, Try.ntmps49
    go_wp2_with fail
    go_ret2
    exact ⟨rfl, rfl⟩
  · have e1 : decide (m < 1) = false := by simp; omega
    have e2 : decide (part < 0) = true := by simp; omega
    clear h
    go_enter Try.func49, Try.ntmps49
    go_wp2_with fail
    go_ret2
    exact ⟨rfl, rfl⟩
end Go.Proofs.Ytbcdfkcgcaifjaa

namespace Go.Proofs.Ytbcdfkcgcaifjaa
open Go.RowKit

/-- the sum of the first ones of a row of numbers -/
def sumTo (f : Nat → Int) : Nat → Int
  | 0 => 0
  | k + 1 => sumTo f k + f k
def Amounts (f : Nat → Int) : Prop := ∀ k, -9223372036854775808 ≤ f k ∧ f k ≤ 9223372036854775807
theorem sum_bd {f : Nat → Int} (hf : Amounts f) (k : Nat) : -9223372036854775808 * (k : Int) ≤ sumTo f k ∧ sumTo f k ≤ 9223372036854775808 * (k : Int) := by
  induction k with
  | zero => simp [sumTo]
  | succ k ih => have h := hf k; simp only [sumTo]; omega
theorem sum_ok {f : Nat → Int} (hf : Amounts f) {k : Nat} (hk : k ≤ 1048576) : wideOk (sumTo f k) := by
  have h := sum_bd hf k; unfold wideOk; omega

/-- two cells in a row that may be written -/
def Row2 (W : World) (p : Nat) (x y : Value) : Prop :=
  W.cell? ⟨p, 0, none⟩ = some x ∧ W.cell? ⟨p, 1, none⟩ = some y ∧ W.frozen? ⟨p, 0, none⟩ = false ∧ W.frozen? ⟨p, 1, none⟩ = false
theorem Row2.lt {W : World} {p : Nat} {x y : Value} (h : Row2 W p x y) : p < W.heap.size := World.block_lt_of_cell? (a := ⟨p, 0, none⟩) _ h.1
theorem Row2.drew {W : World} {p : Nat} {x y : Value} (h : Row2 W p x y) : Row2 W.drew p x y := h
theorem Row2.below {W W' : World} {p : Nat} {x y : Value} (h : Row2 W p x y) (hb : Below W.heap.size W W') : Row2 W' p x y :=
  have l := h.lt
  ⟨kcell hb h.1, kcell hb h.2.1, (hb.frozen (p := ⟨p, 0, none⟩) l).trans h.2.2.1, (hb.frozen (p := ⟨p, 1, none⟩) l).trans h.2.2.2⟩
theorem Row2.put {W : World} {p : Nat} {x y : Value} (h : Row2 W p x y) (x' y' : Value) : Row2 ((W.setCell ⟨p, 0, none⟩ x').setCell ⟨p, 1, none⟩ y') p x' y' := by
  obtain ⟨h0, h1, f0, f1⟩ := h
  unfold Row2; simp [go_sem, h0, h1, f0, f1]
theorem Row2.new (W : World) (x y : Value) (t : Nat) : Row2 (W.alloc (.cells #[x, y] t)) W.heap.size x y := by
  unfold Row2; simp [go_sem]

/-- what holds at the loop's head -/
def SumAt (w : World) (v : Int) (wr : World) : Prop := Below w.heap.size w wr ∧ Row2 wr w.heap.size (.int .u64 (hiW v)) (.int .u64 (loW v))
theorem SumAt.drew {w : World} {v : Int} {wr : World} (h : SumAt w v wr) : SumAt w v wr.drew := ⟨h.1.drew, h.2⟩
theorem SumAt.below {w : World} {v : Int} {wr w1 : World} (h : SumAt w v wr) (hb : Below wr.heap.size wr w1) : SumAt w v w1 :=
  ⟨h.1.trans (hb.mono (by have := h.2.lt; omega)), h.2.below hb⟩
theorem SumAt.put {w : World} {v : Int} {wr : World} (h : SumAt w v wr) (u : Int) : SumAt w u ((wr.setCell ⟨w.heap.size, 0, none⟩ (.int .u64 (hiW u))).setCell ⟨w.heap.size, 1, none⟩ (.int .u64 (loW u))) :=
  ⟨(h.1.setCell (Nat.le_refl _) _).setCell (Nat.le_refl _) _, h.2.put _ _⟩
theorem SumAt.start (w : World) : SumAt w 0 (w.alloc (.cells #[.int .u64 0, .int .u64 0] 53)) := ⟨(Below.refl _ _).alloc (Nat.le_refl _) _, Row2.new _ _ _ _⟩

set_option maxHeartbeats 400000 in
theorem sum_some (f : Nat → Int) (hf : Amounts f) (b off len cap : Nat) (w : World) (hl : len ≤ 1048576) (hc : ∀ k, k < len → w.cell? ⟨b, off + k, none⟩ = some (.int .i64 (f k))) :
    Calls Try.prog 17 #[.slice (some ⟨b, off, none⟩) len cap] w fun e w' => e = .returned (.tuple #[.int .i64 (tellV (sumTo f len)), .int .i64 (tellE (sumTo f len))]) ∧ Below w.heap.size w w' := by
  have HC := Lib.hid hc
  have HF := Lib.hid hf
  clear hc hf
  go_enter Try.func17, Try.ntmps17
  go_wp2_with fail
  go_loopw [6, 9] (fun _ i wr => ∃ k : Nat, k ≤ len ∧ i = .int .i64 k ∧ SumAt w (sumTo f k) wr) (fun _ i _ => len - (intOf i).toNat)
  case atStart => exact ⟨0, Nat.zero_le _, rfl, SumAt.start w⟩
  case round =>
    obtain ⟨k, hk, rfl, hS⟩ := hrel
    have HS := Lib.hid hS
    clear hS
    by_cases hlt : k < len
    · have hcell : wr.cell? ⟨b, off + k, none⟩ = some (.int .i64 (f k)) :=
        (HS.out.1.cell (p := ⟨b, off + k, none⟩) (World.block_lt_of_cell? (a := ⟨b, off + k, none⟩) _ (HC.out k hlt))).trans (HC.out k hlt)
      obtain ⟨f1, f2⟩ := HF.out k
      obtain ⟨c0, c1, e0, e1⟩ := HS.out.2
      go_wp2_with fail
      go_region_with (first | (go_at_call 33; ((with_reducible refine (widen_any (f k) _ f1 f2).mono ?_); rintro e w1 ⟨rfl, hb1⟩; have kS1 := Lib.hid (HS.out.drew.below hb1); obtain ⟨x0, x1, y0, y1⟩ := kS1.out.2)) | (go_at_call 32; ((with_reducible refine (plus_any (sumTo f k) (f k) _).mono ?_); rintro e w2 ⟨rfl, hb2⟩; have kS2 := Lib.hid (kS1.out.below hb2); obtain ⟨z0, z1, t0, t1⟩ := kS2.out.2)))
      all_goals
        go_wp2_with fail
        go_roundw
        case rel => exact ⟨k + 1, by omega, by go_num, kS2.out.put (sumTo f (k + 1))⟩
        case measure => simp [intOf]; omega
    · obtain ⟨c0, c1, e0, e1⟩ := HS.out.2
      have hke : k = len := by omega
      subst hke
      go_wp2_with fail
      refine (narrow_any (sumTo f k) _ (sum_ok HF.out hl)).mono ?_
      rintro e w2 ⟨rfl, hb2⟩
      go_wp2_with fail
      go_ret2
      exact ⟨rfl, HS.out.1.trans (hb2.mono (by have := HS.out.2.lt; omega))⟩

set_option maxHeartbeats 400000 in
theorem sum_nil (w : World) :
    Calls Try.prog 17 #[.slice none 0 0] w fun e w' => e = .returned (.tuple #[.int .i64 0, .int .i64 0]) ∧ Below w.heap.size w w' := by
  go_enter Try.func17, Try.ntmps17
  go_wp2_with fail
  go_loopw [6, 9] (fun _ i wr => i = .int .i64 0 ∧ SumAt w 0 wr) (fun _ _ _ => 0)
  case atStart => exact ⟨rfl, SumAt.start w⟩
  case round =>
    obtain ⟨rfl, hS⟩ := hrel
    have HS := Lib.hid hS
    clear hS
    obtain ⟨c0, c1, e0, e1⟩ := HS.out.2
    go_wp2_with fail
    refine (narrow_fit 0 _ (by omega) (by omega)).mono ?_
    rintro e w2 ⟨rfl, hb2⟩
    go_wp2_with fail
    go_ret2
    exact ⟨rfl, HS.out.1.trans (hb2.mono (by have := HS.out.2.lt; omega))⟩
end Go.Proofs.Ytbcdfkcgcaifjaa
