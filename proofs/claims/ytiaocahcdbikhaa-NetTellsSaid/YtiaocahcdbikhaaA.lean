/- Contracts of the wide numbers' functions: widen, plus, less, narrow. -/
import Derived.WalkKit
import Derived.WalkSpells
import Derived.WalkLawsBesides
import Derived.Laws.Externs
import Derived.Deep.RegionHeld3
import Derived.Lib.Hide
import Derived.Test.YtiaocahcdbikhaaM
namespace Go.Proofs.Ytiaocahcdbikhaa
open Go.RowKit

def sub64Row : Array Value → Sem Value := fun args => do
  let (x, y, b) ← Extern.MathBitsCarry.three "Sub64" args
  pure (Extern.MathBitsCarry.pair ((x + Extern.MathBitsCarry.m64 - y - b) % Extern.MathBitsCarry.m64) (if x < y + b then 1 else 0))

theorem run_sub64Row {P : Program} (x y b : Nat) (hb : b ≤ 1) (w : World) :
    (sub64Row #[.int .u64 x, .int .u64 y, .int .u64 b]).run P w =
      .ok (.tuple #[.int .u64 (((x + 18446744073709551616 - y - b) % 18446744073709551616 : Nat) : Int), .int .u64 ((if x < y + b then 1 else 0 : Nat) : Int)]) w := by
  have : b = 0 ∨ b = 1 := by omega
  rcases this with rfl | rfl <;> rfl

theorem add64 (x y c : Int) (hx : U x) (hy : U y) (hc : 0 ≤ c ∧ c ≤ 1) (w : World) :
    (callFunc 35 #[.int .u64 x, .int .u64 y, .int .u64 c]).run Try.prog w = .ok (.value (.tuple #[.int .u64 (lo3 x y c), .int .u64 (hi3 x y c)])) w := by
  rw [run_callFunc_extern Try.func35 (by kernel_rfl) (by kernel_rfl) (by kernel_rfl) (e := add64Entry) (by kernel_rfl), run_add64 x y c hx.1 hy.1 hc.1 hc.2]
  simp only [Result.andThen]; rfl

theorem sub64 (x y c : Int) (hx : U x) (hy : U y) (hc : 0 ≤ c ∧ c ≤ 1) (w : World) :
    (callFunc 38 #[.int .u64 x, .int .u64 y, .int .u64 c]).run Try.prog w = .ok (.value (.tuple #[.int .u64 (lo2 x y c), .int .u64 (hi2 x y c)])) w := by
  obtain ⟨X, rfl⟩ := Int.eq_ofNat_of_zero_le hx.1
  obtain ⟨Y, rfl⟩ := Int.eq_ofNat_of_zero_le hy.1
  obtain ⟨C, rfl⟩ := Int.eq_ofNat_of_zero_le hc.1
  rw [run_callFunc_extern Try.func38 (by kernel_rfl) (by kernel_rfl) (by kernel_rfl) (e := sub64Row) (by kernel_rfl), run_sub64Row X Y C (by omega)]
  simp only [Result.andThen]
  have e1 : (((X + 18446744073709551616 - Y - C) % 18446744073709551616 : Nat) : Int) = lo2 X Y C := by
    unfold U at hx hy; unfold lo2; omega
  have e2 : ((if X < Y + C then 1 else 0 : Nat) : Int) = hi2 X Y C := by unfold hi2; split <;> split <;> omega
  rw [e1, e2]

theorem wrap_hi (n : Int) (h1 : -9223372036854775808 ≤ n) (h2 : n ≤ 9223372036854775807) : IntKind.u64.wrap (n / 9223372036854775808) = hiW n := by
  simp [IntKind.wrap, IntKind.bits, IntKind.signed, hiW]; omega
theorem wrap_lo (n : Int) : IntKind.u64.wrap n = loW n := by
  simp [IntKind.wrap, IntKind.bits, IntKind.signed, loW]

set_option maxHeartbeats 400000 in
theorem widen_any (n : Int) (w : World) (h1 : -9223372036854775808 ≤ n) (h2 : n ≤ 9223372036854775807) :
    Calls Try.prog 24 #[.int .i64 n] w fun e w' => e = .returned (.agg #[.int .u64 (hiW n), .int .u64 (loW n)]) ∧ Below w.heap.size w w' := by
  rw [← wrap_hi n h1 h2, ← wrap_lo n]
  go_enter Try.func24, Try.ntmps24
  go_wp2
  exact bodyPost_ret (v := .agg #[.int .u64 (IntKind.u64.wrap (n / 9223372036854775808)), .int .u64 (IntKind.u64.wrap n)]) (by simp [results, Try.results24, go_sem]) rfl ⟨rfl, (Below.refl _ _).alloc (Nat.le_refl _) _⟩

set_option maxHeartbeats 400000 in
theorem plus_raw (x1 y1 x2 y2 : Int) (w : World) (g1 : U x1) (g2 : U y1) (g3 : U x2) (g4 : U y2) :
    Calls Try.prog 23 #[.agg #[.int .u64 x1, .int .u64 y1], .agg #[.int .u64 x2, .int .u64 y2]] w fun e w' =>
      e = .returned (.agg #[.int .u64 (lo3 x1 x2 (hi3 y1 y2 0)), .int .u64 (lo3 y1 y2 0)]) ∧ Below w.heap.size w w' := by
  have a1 := add64 y1 y2 0 g2 g4 (by omega)
  have a2 := add64 x1 x2 (hi3 y1 y2 0) g1 g3 (hi3_le _ _ g2 g4)
  clear g1 g2 g3 g4
  go_enter Try.func23, Try.ntmps23
  go_wp2
  exact bodyPost_ret (v := .agg #[.int .u64 (lo3 x1 x2 (hi3 y1 y2 0)), .int .u64 (lo3 y1 y2 0)]) (by simp [results, Try.results23, go_sem]) rfl
    ⟨rfl, (((Below.refl _ _).alloc (Nat.le_refl _) _).alloc (by simp) _).alloc (by simp; omega) _⟩

theorem plus_any (a b : Int) (w : World) :
    Calls Try.prog 23 #[.agg #[.int .u64 (hiW a), .int .u64 (loW a)], .agg #[.int .u64 (hiW b), .int .u64 (loW b)]] w fun e w' =>
      e = .returned (.agg #[.int .u64 (hiW (a + b)), .int .u64 (loW (a + b))]) ∧ Below w.heap.size w w' := by
  have h := plus_raw (hiW a) (loW a) (hiW b) (loW b) w (U_hi _) (U_lo _) (U_hi _) (U_lo _)
  rw [plus_hi, plus_lo] at h
  exact h

set_option maxHeartbeats 400000 in
theorem less_raw (x1 y1 x2 y2 : Int) (w : World) (g1 : U x1) (g2 : U y1) (g3 : U x2) (g4 : U y2) :
    Calls Try.prog 36 #[.agg #[.int .u64 x1, .int .u64 y1], .agg #[.int .u64 x2, .int .u64 y2]] w fun e w' =>
      e = .returned (.agg #[.int .u64 (lo2 x1 x2 (hi2 y1 y2 0)), .int .u64 (lo2 y1 y2 0)]) ∧ Below w.heap.size w w' := by
  have a1 := sub64 y1 y2 0 g2 g4 (by omega)
  have a2 := sub64 x1 x2 (hi2 y1 y2 0) g1 g3 (hi2_le _ _)
  clear g1 g2 g3 g4
  go_enter Try.func36, Try.ntmps36
  go_wp2
  exact bodyPost_ret (v := .agg #[.int .u64 (lo2 x1 x2 (hi2 y1 y2 0)), .int .u64 (lo2 y1 y2 0)]) (by simp [results, Try.results36, go_sem]) rfl
    ⟨rfl, (((Below.refl _ _).alloc (Nat.le_refl _) _).alloc (by simp) _).alloc (by simp; omega) _⟩

theorem less_any (a b : Int) (w : World) :
    Calls Try.prog 36 #[.agg #[.int .u64 (hiW a), .int .u64 (loW a)], .agg #[.int .u64 (hiW b), .int .u64 (loW b)]] w fun e w' =>
      e = .returned (.agg #[.int .u64 (hiW (a - b)), .int .u64 (loW (a - b))]) ∧ Below w.heap.size w w' := by
  have h := less_raw (hiW a) (loW a) (hiW b) (loW b) w (U_hi _) (U_lo _) (U_hi _) (U_lo _)
  rw [less_hi, less_lo] at h
  exact h

theorem wrap_sgn (n : Int) : IntKind.i64.wrap n = sgn n := by
  simp [IntKind.wrap, IntKind.bits, IntKind.signed, sgn]; split <;> omega

end Go.Proofs.Ytiaocahcdbikhaa
