/- Plain facts on numbers of 128 bits, of two halves of 64 bits. -/
import Derived.WalkKit
import Derived.WalkSpells
import Derived.WalkLawsBesides
import Derived.Laws.Externs
import Derived.Deep.RegionHeld3
import Derived.Lib.Hide
import Derived.Test.YtobdcogaphkogaaKit
namespace Go.Proofs.Ytobdcogaphkogaa

/-- the upper and the lower half of a whole number's 128 bits -/
def hiW (v : Int) : Int := v / 18446744073709551616 % 18446744073709551616
def loW (v : Int) : Int := v % 18446744073709551616
/-- sum and carry, difference and borrow of 64 bits -/
def lo3 (x y c : Int) : Int := (x + y + c) % 18446744073709551616
def hi3 (x y c : Int) : Int := (x + y + c) / 18446744073709551616
def lo2 (x y c : Int) : Int := (x + 18446744073709551616 - y - c) % 18446744073709551616
def hi2 (x y c : Int) : Int := if x < y + c then 1 else 0
def U (x : Int) : Prop := 0 ≤ x ∧ x < 18446744073709551616

theorem U_hi (v : Int) : U (hiW v) := by unfold U hiW; omega
theorem U_lo (v : Int) : U (loW v) := by unfold U loW; omega
theorem plus_lo (a b : Int) : lo3 (loW a) (loW b) 0 = loW (a + b) := by unfold lo3 loW; omega
theorem plus_hi (a b : Int) : lo3 (hiW a) (hiW b) (hi3 (loW a) (loW b) 0) = hiW (a + b) := by unfold lo3 hi3 loW hiW; omega
theorem less_lo (a b : Int) : lo2 (loW a) (loW b) 0 = loW (a - b) := by unfold lo2 loW; omega
theorem less_hi (a b : Int) : lo2 (hiW a) (hiW b) (hi2 (loW a) (loW b) 0) = hiW (a - b) := by
  unfold lo2 hi2 loW hiW; split <;> omega
theorem hi3_le (x y : Int) (hx : U x) (hy : U y) : 0 ≤ hi3 x y 0 ∧ hi3 x y 0 ≤ 1 := by unfold U at hx hy; unfold hi3; omega
theorem hi2_le (x y : Int) : 0 ≤ hi2 x y 0 ∧ hi2 x y 0 ≤ 1 := by unfold hi2; split <;> omega
theorem U_lo3 (x y c : Int) : U (lo3 x y c) := by unfold U lo3; omega
theorem U_lo2 (x y c : Int) : U (lo2 x y c) := by unfold U lo2; omega
/-- the number of 64 bits that a lower half is -/
def sgn (l : Int) : Int := (l + 9223372036854775808) % 18446744073709551616 - 9223372036854775808
theorem sgn_bd (l : Int) : -9223372036854775808 ≤ sgn l ∧ sgn l ≤ 9223372036854775807 := by unfold sgn; omega
theorem sgn_fit (v : Int) (h1 : -9223372036854775808 ≤ v) (h2 : v ≤ 9223372036854775807) : sgn (loW v) = v := by unfold sgn loW; omega
theorem lo_sgn (v : Int) : loW (sgn (loW v)) = loW v := by unfold sgn loW; omega
theorem hi_sgn (v : Int) (h : v < -9223372036854775808 ∨ 9223372036854775807 < v) (h1 : -170141183460469231731687303715884105728 ≤ v) (h2 : v < 170141183460469231731687303715884105728) :
    hiW (sgn (loW v)) ≠ hiW v := by unfold sgn loW hiW; omega
end Go.Proofs.Ytobdcogaphkogaa

namespace Go.Proofs.Ytobdcogaphkogaa
open Go.RowKit

def sub64Row : Array Value → Sem Value := fun args => do
  let (x, y, b) ← Extern.MathBitsCarry.three "Sub64" args
  pure (Extern.MathBitsCarry.pair ((x + Extern.MathBitsCarry.m64 - y - b) % Extern.MathBitsCarry.m64) (if x < y + b then 1 else 0))

theorem run_sub64Row {P : Program} (x y b : Nat) (hb : b ≤ 1) (w : World) :
    (sub64Row #[.int .u64 x, .int .u64 y, .int .u64 b]).run P w =
      .ok (.tuple #[.int .u64 (((x + 18446744073709551616 - y - b) % 18446744073709551616 : Nat) : Int), .int .u64 ((if x < y + b then 1 else 0 : Nat) : Int)]) w := by
  have : b = 0 ∨ b = 1 := by omega
  rcases this with rfl | rfl <;> rfl

theorem add64 (x y c : Int) (hx : U x) (hy : U y) (hc : 0 ≤ c ∧ c ≤ 1) (w : World) :
    (callFunc 69 #[.int .u64 x, .int .u64 y, .int .u64 c]).run Try.prog w = .ok (.value (.tuple #[.int .u64 (lo3 x y c), .int .u64 (hi3 x y c)])) w := by
  rw [run_callFunc_extern Try.func69 (by kernel_rfl) (by kernel_rfl) (by kernel_rfl) (e := add64Entry) (by kernel_rfl), run_add64 x y c hx.1 hy.1 hc.1 hc.2]
  simp only [Result.andThen]; rfl

theorem sub64 (x y c : Int) (hx : U x) (hy : U y) (hc : 0 ≤ c ∧ c ≤ 1) (w : World) :
    (callFunc 70 #[.int .u64 x, .int .u64 y, .int .u64 c]).run Try.prog w = .ok (.value (.tuple #[.int .u64 (lo2 x y c), .int .u64 (hi2 x y c)])) w := by
  obtain ⟨X, rfl⟩ := Int.eq_ofNat_of_zero_le hx.1
  obtain ⟨Y, rfl⟩ := Int.eq_ofNat_of_zero_le hy.1
  obtain ⟨C, rfl⟩ := Int.eq_ofNat_of_zero_le hc.1
  rw [run_callFunc_extern Try.func70 (by kernel_rfl) (by kernel_rfl) (by kernel_rfl) (e := sub64Row) (by kernel_rfl), run_sub64Row X Y C (by omega)]
  simp only [Result.andThen]
  have e1 : (((X + 18446744073709551616 - Y - C) % 18446744073709551616 : Nat) : Int) = lo2 X Y C := by
    unfold U at hx hy; unfold lo2; omega
  have e2 : ((if X < Y + C then 1 else 0 : Nat) : Int) = hi2 X Y C := by unfold hi2; split <;> split <;> omega
  rw [e1, e2]

theorem wrap_hi (n : Int) (h1 : -9223372036854775808 ≤ n) (h2 : n ≤ 9223372036854775807) : IntKind.u64.wrap (n / 9223372036854775808) = hiW n := by
  simp [IntKind.wrap, IntKind.bits, IntKind.signed, hiW]; omega
theorem wrap_lo (n : Int) : IntKind.u64.wrap n = loW n := by
  simp [IntKind.wrap, IntKind.bits, IntKind.signed, loW]

set_option maxHeartbeats 400000 in
theorem widen_any (n : Int) (w : World) (h1 : -9223372036854775808 ≤ n) (h2 : n ≤ 9223372036854775807) :
    Calls Try.prog 62 #[.int .i64 n] w fun e w' => e = .returned (.agg #[.int .u64 (hiW n), .int .u64 (loW n)]) ∧ Below w.heap.size w w' := by
  rw [← wrap_hi n h1 h2, ← wrap_lo n]
  go_enter Try.func62, Try.ntmps62
  go_wp2
  exact bodyPost_ret (v := .agg #[.int .u64 (IntKind.u64.wrap (n / 9223372036854775808)), .int .u64 (IntKind.u64.wrap n)]) (by simp [results, Try.results62, go_sem]) rfl ⟨rfl, (Below.refl _ _).alloc (Nat.le_refl _) _⟩

set_option maxHeartbeats 400000 in
theorem plus_raw (x1 y1 x2 y2 : Int) (w : World) (g1 : U x1) (g2 : U y1) (g3 : U x2) (g4 : U y2) :
    Calls Try.prog 63 #[.agg #[.int .u64 x1, .int .u64 y1], .agg #[.int .u64 x2, .int .u64 y2]] w fun e w' =>
      e = .returned (.agg #[.int .u64 (lo3 x1 x2 (hi3 y1 y2 0)), .int .u64 (lo3 y1 y2 0)]) ∧ Below w.heap.size w w' := by
  have a1 := add64 y1 y2 0 g2 g4 (by omega)
  have a2 := add64 x1 x2 (hi3 y1 y2 0) g1 g3 (hi3_le _ _ g2 g4)
  clear g1 g2 g3 g4
  go_enter Try.func63, Try.ntmps63
  go_wp2
  exact bodyPost_ret (v := .agg #[.int .u64 (lo3 x1 x2 (hi3 y1 y2 0)), .int .u64 (lo3 y1 y2 0)]) (by simp [results, Try.results63, go_sem]) rfl
    ⟨rfl, (((Below.refl _ _).alloc (Nat.le_refl _) _).alloc (by simp) _).alloc (by simp; omega) _⟩

theorem plus_any (a b : Int) (w : World) :
    Calls Try.prog 63 #[.agg #[.int .u64 (hiW a), .int .u64 (loW a)], .agg #[.int .u64 (hiW b), .int .u64 (loW b)]] w fun e w' =>
      e = .returned (.agg #[.int .u64 (hiW (a + b)), .int .u64 (loW (a + b))]) ∧ Below w.heap.size w w' := by
  have h := plus_raw (hiW a) (loW a) (hiW b) (loW b) w (U_hi _) (U_lo _) (U_hi _) (U_lo _)
  rw [plus_hi, plus_lo] at h
  exact h

set_option maxHeartbeats 400000 in
theorem less_raw (x1 y1 x2 y2 : Int) (w : World) (g1 : U x1) (g2 : U y1) (g3 : U x2) (g4 : U y2) :
    Calls Try.prog 65 #[.agg #[.int .u64 x1, .int .u64 y1], .agg #[.int .u64 x2, .int .u64 y2]] w fun e w' =>
      e = .returned (.agg #[.int .u64 (lo2 x1 x2 (hi2 y1 y2 0)), .int .u64 (lo2 y1 y2 0)]) ∧ Below w.heap.size w w' := by
  have a1 := sub64 y1 y2 0 g2 g4 (by omega)
  have a2 := sub64 x1 x2 (hi2 y1 y2 0) g1 g3 (hi2_le _ _)
  clear g1 g2 g3 g4
  go_enter Try.func65, Try.ntmps65
  go_wp2
  exact bodyPost_ret (v := .agg #[.int .u64 (lo2 x1 x2 (hi2 y1 y2 0)), .int .u64 (lo2 y1 y2 0)]) (by simp [results, Try.results65, go_sem]) rfl
    ⟨rfl, (((Below.refl _ _).alloc (Nat.le_refl _) _).alloc (by simp) _).alloc (by simp; omega) _⟩

theorem less_any (a b : Int) (w : World) :
    Calls Try.prog 65 #[.agg #[.int .u64 (hiW a), .int .u64 (loW a)], .agg #[.int .u64 (hiW b), .int .u64 (loW b)]] w fun e w' =>
      e = .returned (.agg #[.int .u64 (hiW (a - b)), .int .u64 (loW (a - b))]) ∧ Below w.heap.size w w' := by
  have h := less_raw (hiW a) (loW a) (hiW b) (loW b) w (U_hi _) (U_lo _) (U_hi _) (U_lo _)
  rw [less_hi, less_lo] at h
  exact h

theorem wrap_sgn (n : Int) : IntKind.i64.wrap n = sgn n := by
  simp [IntKind.wrap, IntKind.bits, IntKind.signed, sgn]; split <;> omega

theorem bcell {W w1 : World} (hb : Below W.heap.size W w1) : (∀ b o, b < W.heap.size → w1.cell? ⟨b, o, none⟩ = W.cell? ⟨b, o, none⟩) ∧ (∀ b o, b < W.heap.size → w1.frozen? ⟨b, o, none⟩ = W.frozen? ⟨b, o, none⟩) :=
  ⟨fun b o h => hb.cell (p := ⟨b, o, none⟩) h, fun b o h => hb.frozen (p := ⟨b, o, none⟩) h⟩

end Go.Proofs.Ytobdcogaphkogaa
