/- What every walk of this seat's leans on: worlds, cells, bounds. -/
import Derived.Test.YtklaonoekmhakaaGreatProg
import Derived.WalkKit
import Derived.WalkSpells
import Derived.WalkLawsBesides
import Derived.Laws.Externs
import Derived.Deep.RegionHeld3
import Derived.Deep.QuietTactic
import Derived.Deep.DeepCutAuto
import Derived.BigQuiet
import Derived.BigRegion
import Derived.IntWalk
import Derived.Lib.Hide
import Derived.Outline
namespace Go.Proofs.YtklaonoekmhakaaGreat
open Go.RowKit

/-- an integer of 64 bits -/
def Am (a : Int) : Prop := -9223372036854775808 ≤ a ∧ a ≤ 9223372036854775807
theorem am_small {a : Int} (h0 : -1000000 ≤ a) (h1 : a ≤ 1000000) : Am a := by unfold Am; omega

theorem kcell {W w1 : World} {p : Addr} {v : Value} (hb : Below W.heap.size W w1) (h : W.cell? p = some v) : w1.cell? p = some v :=
  (hb.cell (World.block_lt_of_cell? _ _ h)).trans h
theorem up2 {w W W' : World} (h : Below w.heap.size w W) (k : Below W.heap.size W W') : Below w.heap.size w W' := h.trans (k.mono h.size)
theorem boxed (w : World) (o : Obj) : Below w.heap.size w (w.alloc o) := (Below.refl _ _).alloc (Nat.le_refl _) _
theorem blw {B : Nat} {x y : World} (h : Below B x y) (n : Nat) : Below B x (y.drewN n) := ⟨h.os, h.tape, h.output, h.size, h.block⟩
theorem drewN_two (w : World) (a b : Nat) : (w.drewN a).drewN b = w.drewN (a + b) := by simp [World.drewN, Nat.add_assoc]
theorem quiet_left {P : Program} {f : FuncId} {args : Array Value} {w : World} {n : Nat} {v : Value}
    (h : Calls P f args (w.drewN n) fun e w' => e = .returned v ∧ w.drewN n = w') : Calls P f args (w.drewN n) fun e w'' => e = .returned v ∧ ∃ m, w'' = w.drewN m :=
  h.mono fun _ _ ⟨he, hm⟩ => ⟨he, n, hm.symm⟩
/-- a store leaves other cells, and marks, as they were -/
theorem cset {W : World} {b o c k : Nat} {x v : Value} (h : W.cell? ⟨c, k, none⟩ = some v) (e : c ≠ b ∨ k ≠ o) : (W.setCell ⟨b, o, none⟩ x).cell? ⟨c, k, none⟩ = some v := by
  rw [World.cell?_setCell_other _ _ _ _ (by intro q; injection q; omega)]; exact h
theorem csame {W : World} {b o : Nat} {x v : Value} (h : W.cell? ⟨b, o, none⟩ = some v) : (W.setCell ⟨b, o, none⟩ x).cell? ⟨b, o, none⟩ = some x :=
  World.cell?_setCell_same' _ _ _ (by rw [h]; rfl)
theorem fset {W : World} {b o c k : Nat} {x : Value} {f : Bool} (h : W.frozen? ⟨c, k, none⟩ = f) : (W.setCell ⟨b, o, none⟩ x).frozen? ⟨c, k, none⟩ = f := by
  rw [World.frozen?_setCell]; exact h
end Go.Proofs.YtklaonoekmhakaaGreat

namespace Go.Proofs.YtklaonoekmhakaaGreat

/-- the upper and the lower half of a whole number's 128 bits -/
def hiW (v : Int) : Int := v / 18446744073709551616 % 18446744073709551616
def loW (v : Int) : Int := v % 18446744073709551616
/-- sum and carry, difference and borrow of 64 bits -/
def lo3 (x y c : Int) : Int := (x + y + c) % 18446744073709551616
def hi3 (x y c : Int) : Int := (x + y + c) / 18446744073709551616
def lo2 (x y c : Int) : Int := (x + 18446744073709551616 - y - c) % 18446744073709551616
def hi2 (x y c : Int) : Int := if x < y + c then 1 else 0
def U (x : Int) : Prop := 0 ≤ x ∧ x < 18446744073709551616

theorem U_hi (v : Int) : U (hiW v) := by unfold U hiW; omega
theorem U_lo (v : Int) : U (loW v) := by unfold U loW; omega
theorem plus_lo (a b : Int) : lo3 (loW a) (loW b) 0 = loW (a + b) := by unfold lo3 loW; omega
theorem plus_hi (a b : Int) : lo3 (hiW a) (hiW b) (hi3 (loW a) (loW b) 0) = hiW (a + b) := by unfold lo3 hi3 loW hiW; omega
theorem less_lo (a b : Int) : lo2 (loW a) (loW b) 0 = loW (a - b) := by unfold lo2 loW; omega
theorem less_hi (a b : Int) : lo2 (hiW a) (hiW b) (hi2 (loW a) (loW b) 0) = hiW (a - b) := by
  unfold lo2 hi2 loW hiW; split <;> omega
theorem hi3_le (x y : Int) (hx : U x) (hy : U y) : 0 ≤ hi3 x y 0 ∧ hi3 x y 0 ≤ 1 := by unfold U at hx hy; unfold hi3; omega
theorem hi2_le (x y : Int) : 0 ≤ hi2 x y 0 ∧ hi2 x y 0 ≤ 1 := by unfold hi2; split <;> omega
/-- the number of 64 bits that a lower half is -/
def sgn (l : Int) : Int := (l + 9223372036854775808) % 18446744073709551616 - 9223372036854775808
theorem sgn_bd (l : Int) : -9223372036854775808 ≤ sgn l ∧ sgn l ≤ 9223372036854775807 := by unfold sgn; omega
theorem sgn_fit (v : Int) (h1 : -9223372036854775808 ≤ v) (h2 : v ≤ 9223372036854775807) : sgn (loW v) = v := by unfold sgn loW; omega
theorem hi_sgn (v : Int) (h : v < -9223372036854775808 ∨ 9223372036854775807 < v) (h1 : -170141183460469231731687303715884105728 ≤ v) (h2 : v < 170141183460469231731687303715884105728) :
    hiW (sgn (loW v)) ≠ hiW v := by unfold sgn loW hiW; omega
end Go.Proofs.YtklaonoekmhakaaGreat

namespace Go.Proofs.YtklaonoekmhakaaGreat
open Go.RowKit

def sub64Row : Array Value → Sem Value := fun args => do
  let (x, y, b) ← Extern.MathBitsCarry.three "Sub64" args
  pure (Extern.MathBitsCarry.pair ((x + Extern.MathBitsCarry.m64 - y - b) % Extern.MathBitsCarry.m64) (if x < y + b then 1 else 0))

theorem run_sub64Row {P : Program} (x y b : Nat) (hb : b ≤ 1) (w : World) :
    (sub64Row #[.int .u64 x, .int .u64 y, .int .u64 b]).run P w =
      .ok (.tuple #[.int .u64 (((x + 18446744073709551616 - y - b) % 18446744073709551616 : Nat) : Int), .int .u64 ((if x < y + b then 1 else 0 : Nat) : Int)]) w := by
  have : b = 0 ∨ b = 1 := by omega
  rcases this with rfl | rfl <;> rfl

theorem add64 (x y c : Int) (hx : U x) (hy : U y) (hc : 0 ≤ c ∧ c ≤ 1) (w : World) :
    (callFunc 90 #[.int .u64 x, .int .u64 y, .int .u64 c]).run Tryz.prog w = .ok (.value (.tuple #[.int .u64 (lo3 x y c), .int .u64 (hi3 x y c)])) w := by
  rw [run_callFunc_extern Tryz.func90 (by kernel_rfl) (by kernel_rfl) (by kernel_rfl) (e := add64Entry) (by kernel_rfl), run_add64 x y c hx.1 hy.1 hc.1 hc.2]
  simp only [Result.andThen]; rfl

theorem sub64 (x y c : Int) (hx : U x) (hy : U y) (hc : 0 ≤ c ∧ c ≤ 1) (w : World) :
    (callFunc 151 #[.int .u64 x, .int .u64 y, .int .u64 c]).run Tryz.prog w = .ok (.value (.tuple #[.int .u64 (lo2 x y c), .int .u64 (hi2 x y c)])) w := by
  obtain ⟨X, rfl⟩ := Int.eq_ofNat_of_zero_le hx.1
  obtain ⟨Y, rfl⟩ := Int.eq_ofNat_of_zero_le hy.1
  obtain ⟨C, rfl⟩ := Int.eq_ofNat_of_zero_le hc.1
  rw [run_callFunc_extern Tryz.func151 (by kernel_rfl) (by kernel_rfl) (by kernel_rfl) (e := sub64Row) (by kernel_rfl), run_sub64Row X Y C (by omega)]
  simp only [Result.andThen]
  have e1 : (((X + 18446744073709551616 - Y - C) % 18446744073709551616 : Nat) : Int) = lo2 X Y C := by
    unfold U at hx hy; unfold lo2; omega
  have e2 : ((if X < Y + C then 1 else 0 : Nat) : Int) = hi2 X Y C := by unfold hi2; split <;> split <;> omega
  rw [e1, e2]

theorem wrap_hi (n : Int) (h1 : -9223372036854775808 ≤ n) (h2 : n ≤ 9223372036854775807) : IntKind.u64.wrap (n / 9223372036854775808) = hiW n := by
  simp [IntKind.wrap, IntKind.bits, IntKind.signed, hiW]; omega
theorem wrap_lo (n : Int) : IntKind.u64.wrap n = loW n := by
  simp [IntKind.wrap, IntKind.bits, IntKind.signed, loW]

set_option maxHeartbeats 400000 in
theorem widen_any (n : Int) (w : World) (h1 : -9223372036854775808 ≤ n) (h2 : n ≤ 9223372036854775807) :
    Calls Tryz.prog 51 #[.int .i64 n] w fun e w' => e = .returned (.agg #[.int .u64 (hiW n), .int .u64 (loW n)]) ∧ Below w.heap.size w w' := by
  rw [← wrap_hi n h1 h2, ← wrap_lo n]
  go_enter Tryz.func51, Tryz.ntmps51
  go_wp2
  exact bodyPost_ret (v := .agg #[.int .u64 (IntKind.u64.wrap (n / 9223372036854775808)), .int .u64 (IntKind.u64.wrap n)]) (by simp [results, Tryz.results51, go_sem]) rfl ⟨rfl, (Below.refl _ _).alloc (Nat.le_refl _) _⟩

set_option maxHeartbeats 400000 in
theorem plus_raw (x1 y1 x2 y2 : Int) (w : World) (g1 : U x1) (g2 : U y1) (g3 : U x2) (g4 : U y2) :
    Calls Tryz.prog 50 #[.agg #[.int .u64 x1, .int .u64 y1], .agg #[.int .u64 x2, .int .u64 y2]] w fun e w' =>
      e = .returned (.agg #[.int .u64 (lo3 x1 x2 (hi3 y1 y2 0)), .int .u64 (lo3 y1 y2 0)]) ∧ Below w.heap.size w w' := by
  have a1 := add64 y1 y2 0 g2 g4 (by omega)
  have a2 := add64 x1 x2 (hi3 y1 y2 0) g1 g3 (hi3_le _ _ g2 g4)
  clear g1 g2 g3 g4
  go_enter Tryz.func50, Tryz.ntmps50
  go_wp2
  exact bodyPost_ret (v := .agg #[.int .u64 (lo3 x1 x2 (hi3 y1 y2 0)), .int .u64 (lo3 y1 y2 0)]) (by simp [results, Tryz.results50, go_sem]) rfl
    ⟨rfl, (((Below.refl _ _).alloc (Nat.le_refl _) _).alloc (by simp) _).alloc (by simp; omega) _⟩

theorem plus_any (a b : Int) (w : World) :
    Calls Tryz.prog 50 #[.agg #[.int .u64 (hiW a), .int .u64 (loW a)], .agg #[.int .u64 (hiW b), .int .u64 (loW b)]] w fun e w' =>
      e = .returned (.agg #[.int .u64 (hiW (a + b)), .int .u64 (loW (a + b))]) ∧ Below w.heap.size w w' := by
  have h := plus_raw (hiW a) (loW a) (hiW b) (loW b) w (U_hi _) (U_lo _) (U_hi _) (U_lo _)
  rw [plus_hi, plus_lo] at h
  exact h

set_option maxHeartbeats 400000 in
theorem less_raw (x1 y1 x2 y2 : Int) (w : World) (g1 : U x1) (g2 : U y1) (g3 : U x2) (g4 : U y2) :
    Calls Tryz.prog 143 #[.agg #[.int .u64 x1, .int .u64 y1], .agg #[.int .u64 x2, .int .u64 y2]] w fun e w' =>
      e = .returned (.agg #[.int .u64 (lo2 x1 x2 (hi2 y1 y2 0)), .int .u64 (lo2 y1 y2 0)]) ∧ Below w.heap.size w w' := by
  have a1 := sub64 y1 y2 0 g2 g4 (by omega)
  have a2 := sub64 x1 x2 (hi2 y1 y2 0) g1 g3 (hi2_le _ _)
  clear g1 g2 g3 g4
  go_enter Tryz.func143, Tryz.ntmps143
  go_wp2
  exact bodyPost_ret (v := .agg #[.int .u64 (lo2 x1 x2 (hi2 y1 y2 0)), .int .u64 (lo2 y1 y2 0)]) (by simp [results, Tryz.results143, go_sem]) rfl
    ⟨rfl, (((Below.refl _ _).alloc (Nat.le_refl _) _).alloc (by simp) _).alloc (by simp; omega) _⟩

theorem less_any (a b : Int) (w : World) :
    Calls Tryz.prog 143 #[.agg #[.int .u64 (hiW a), .int .u64 (loW a)], .agg #[.int .u64 (hiW b), .int .u64 (loW b)]] w fun e w' =>
      e = .returned (.agg #[.int .u64 (hiW (a - b)), .int .u64 (loW (a - b))]) ∧ Below w.heap.size w w' := by
  have h := less_raw (hiW a) (loW a) (hiW b) (loW b) w (U_hi _) (U_lo _) (U_hi _) (U_lo _)
  rw [less_hi, less_lo] at h
  exact h

theorem wrap_sgn (n : Int) : IntKind.i64.wrap n = sgn n := by
  simp [IntKind.wrap, IntKind.bits, IntKind.signed, sgn]; split <;> omega

end Go.Proofs.YtklaonoekmhakaaGreat

namespace Go.Proofs.YtklaonoekmhakaaGreat
open Go.RowKit


set_option maxHeartbeats 400000 in
theorem narrow_fit (n : Int) (w : World) (h1 : -9223372036854775808 ≤ n) (h2 : n ≤ 9223372036854775807) :
    Calls Tryz.prog 52 #[.agg #[.int .u64 (hiW n), .int .u64 (loW n)]] w fun e w' =>
      e = .returned (.tuple #[.int .i64 n, .int .i64 0]) ∧ Below w.heap.size w w' := by
  have hn : IntKind.i64.wrap (loW n) = n := by rw [wrap_sgn, sgn_fit n h1 h2]
  go_enter Tryz.func52, Tryz.ntmps52
  go_wp2
  go_region_held3 (fun w' => w'.cell? ⟨w.heap.size, 0, none⟩ = some (.int .u64 (hiW n)) ∧ w'.cell? ⟨w.heap.size, 1, none⟩ = some (.int .u64 (loW n)))
    (first | go_keep | (exact ⟨kcell hb (by go_keep), kcell hb (by go_keep)⟩))
    (first | (go_at_call 51; refine (widen_any n _ h1 h2).mono ?_; rintro e w' ⟨rfl, hb⟩))
  go_wp2
  go_ret2
  exact ⟨rfl, (((Below.refl _ _).alloc (Nat.le_refl _) _).drew).trans (hb.mono (by simp))⟩

set_option maxHeartbeats 400000 in
theorem narrow_no (x y m : Int) (w : World) (hm : IntKind.i64.wrap y = m) (h1 : -9223372036854775808 ≤ m) (h2 : m ≤ 9223372036854775807) (hx : (hiW m == x) = false) :
    Calls Tryz.prog 52 #[.agg #[.int .u64 x, .int .u64 y]] w fun e w' =>
      e = .returned (.tuple #[.int .i64 0, .int .i64 3]) ∧ Below w.heap.size w w' := by
  go_enter Tryz.func52, Tryz.ntmps52
  go_wp2
  go_region_held3 (fun w' => w'.cell? ⟨w.heap.size, 0, none⟩ = some (.int .u64 x) ∧ w'.cell? ⟨w.heap.size, 1, none⟩ = some (.int .u64 y))
    (first | go_keep | (exact ⟨kcell hb (by go_keep), kcell hb (by go_keep)⟩))
    (first | (go_at_call 51; refine (widen_any m _ h1 h2).mono ?_; rintro e w' ⟨rfl, hb⟩))
  go_wp2
  go_ret2
  exact ⟨rfl, (((Below.refl _ _).alloc (Nat.le_refl _) _).drew).trans (hb.mono (by simp))⟩

theorem narrow_over (v : Int) (w : World) (h : v < -9223372036854775808 ∨ 9223372036854775807 < v) (h1 : -170141183460469231731687303715884105728 ≤ v) (h2 : v < 170141183460469231731687303715884105728) :
    Calls Tryz.prog 52 #[.agg #[.int .u64 (hiW v), .int .u64 (loW v)]] w fun e w' =>
      e = .returned (.tuple #[.int .i64 0, .int .i64 3]) ∧ Below w.heap.size w w' :=
  narrow_no (hiW v) (loW v) (sgn (loW v)) w (wrap_sgn _) (sgn_bd _).1 (sgn_bd _).2 (beq_eq_false_iff_ne.2 (hi_sgn v h h1 h2))

/-- the answer of a number that may be no amount -/
def tellV (v : Int) : Int := if -9223372036854775808 ≤ v ∧ v ≤ 9223372036854775807 then v else 0
def tellE (v : Int) : Int := if -9223372036854775808 ≤ v ∧ v ≤ 9223372036854775807 then 0 else 3
def wideOk (v : Int) : Prop := -170141183460469231731687303715884105728 ≤ v ∧ v < 170141183460469231731687303715884105728

theorem narrow_any (v : Int) (w : World) (h : wideOk v) :
    Calls Tryz.prog 52 #[.agg #[.int .u64 (hiW v), .int .u64 (loW v)]] w fun e w' =>
      e = .returned (.tuple #[.int .i64 (tellV v), .int .i64 (tellE v)]) ∧ Below w.heap.size w w' := by
  unfold tellV tellE
  by_cases hv : -9223372036854775808 ≤ v ∧ v ≤ 9223372036854775807
  · rw [if_pos hv, if_pos hv]; exact narrow_fit v w hv.1 hv.2
  · rw [if_neg hv, if_neg hv]; exact narrow_over v w (by omega) h.1 h.2

set_option maxHeartbeats 400000 in
theorem add_any (a b : Int) (w : World) (a1 : -9223372036854775808 ≤ a) (a2 : a ≤ 9223372036854775807) (b1 : -9223372036854775808 ≤ b) (b2 : b ≤ 9223372036854775807) :
    Calls Tryz.prog 91 #[.int .i64 a, .int .i64 b] w fun e w' =>
      e = .returned (.tuple #[.int .i64 (tellV (a + b)), .int .i64 (tellE (a + b))]) ∧ Below w.heap.size w w' := by
  have ho : wideOk (a + b) := by unfold wideOk; omega
  go_enter Tryz.func91, Tryz.ntmps91
  go_wp2_with fail
  refine (widen_any a _ a1 a2).mono ?_
  rintro e w1 ⟨rfl, hb1⟩
  go_wp2_with fail
  refine (widen_any b _ b1 b2).mono ?_
  rintro e w2 ⟨rfl, hb2⟩
  go_wp2_with fail
  refine (plus_any a b _).mono ?_
  rintro e w3 ⟨rfl, hb3⟩
  go_wp2_with fail
  refine (narrow_any (a + b) _ ho).mono ?_
  rintro e w4 ⟨rfl, hb4⟩
  go_wp2_with fail
  go_ret2
  have s1 := hb1.size; have s2 := hb2.size; have s3 := hb3.size
  exact ⟨rfl, hb1.trans ((hb2.mono (by omega)).trans ((hb3.mono (by omega)).trans (hb4.mono (by omega))))⟩


set_option maxHeartbeats 400000 in
theorem less_calls (a b : Int) (w : World) (a1 : -9223372036854775808 ≤ a) (a2 : a ≤ 9223372036854775807) (b1 : -9223372036854775808 ≤ b) (b2 : b ≤ 9223372036854775807) :
    Calls Tryz.prog 123 #[.int .i64 a, .int .i64 b] w fun e w' =>
      e = .returned (.tuple #[.int .i64 (tellV (a - b)), .int .i64 (tellE (a - b))]) ∧ Below w.heap.size w w' := by
  have ho : wideOk (a - b) := by unfold wideOk; omega
  go_enter Tryz.func123, Tryz.ntmps123
  go_wp2_with fail
  refine (widen_any a _ a1 a2).mono ?_
  rintro e w1 ⟨rfl, hb1⟩
  go_wp2_with fail
  refine (widen_any b _ b1 b2).mono ?_
  rintro e w2 ⟨rfl, hb2⟩
  go_wp2_with fail
  refine (less_any a b _).mono ?_
  rintro e w3 ⟨rfl, hb3⟩
  go_wp2_with fail
  refine (narrow_any (a - b) _ ho).mono ?_
  rintro e w4 ⟨rfl, hb4⟩
  go_wp2_with fail
  go_ret2
  have s1 := hb1.size; have s2 := hb2.size; have s3 := hb3.size
  exact ⟨rfl, hb1.trans ((hb2.mono (by omega)).trans ((hb3.mono (by omega)).trans (hb4.mono (by omega))))⟩
end Go.Proofs.YtklaonoekmhakaaGreat

namespace Go.Proofs.YtklaonoekmhakaaGreat
open Go.RowKit

theorem cAlloc {w : World} {o : Obj} {p : Addr} {v : Value} (h : w.cell? p = some v) : (w.alloc o).cell? p = some v := by
  rw [World.cell?_alloc_some _ _ _ (by rw [h]; rfl)]; exact h
theorem cSet {w : World} {a p : Addr} {u v : Value} (hne : a.block ≠ p.block) (h : w.cell? p = some v) : (w.setCell a u).cell? p = some v := by
  rw [World.cell?_setCell_far _ _ _ _ hne]; exact h
theorem fAlloc {w : World} {o : Obj} {p : Addr} (hp : p.block < w.heap.size) (h : w.frozen? p = false) : (w.alloc o).frozen? p = false := by
  rw [World.frozen?_of_block (w := w) (Below.heap_alloc w o _ hp)]; exact h
theorem fSet {w : World} {a p : Addr} {u : Value} (hne : p.block ≠ a.block) (h : w.frozen? p = false) : (w.setCell a u).frozen? p = false := by
  rw [World.frozen?_of_block (w := w) (Below.heap_setCell w a u _ hne)]; exact h

/-- three cells in a row that may be written -/
def Row3 (W : World) (p : Nat) (x y z : Value) : Prop :=
  W.cell? ⟨p, 0, none⟩ = some x ∧ W.cell? ⟨p, 1, none⟩ = some y ∧ W.cell? ⟨p, 2, none⟩ = some z ∧
  W.frozen? ⟨p, 0, none⟩ = false ∧ W.frozen? ⟨p, 1, none⟩ = false ∧ W.frozen? ⟨p, 2, none⟩ = false
theorem Row3.lt {W : World} {p : Nat} {x y z : Value} (h : Row3 W p x y z) : p < W.heap.size := World.block_lt_of_cell? (a := ⟨p, 0, none⟩) _ h.1
theorem Row3.drew {W : World} {p : Nat} {x y z : Value} (h : Row3 W p x y z) : Row3 W.drew p x y z := h
theorem Row3.below {W W' : World} {p : Nat} {x y z : Value} (h : Row3 W p x y z) (hb : Below W.heap.size W W') : Row3 W' p x y z :=
  have l := h.lt
  ⟨kcell hb h.1, kcell hb h.2.1, kcell hb h.2.2.1, (hb.frozen (p := ⟨p, 0, none⟩) l).trans h.2.2.2.1, (hb.frozen (p := ⟨p, 1, none⟩) l).trans h.2.2.2.2.1, (hb.frozen (p := ⟨p, 2, none⟩) l).trans h.2.2.2.2.2⟩
theorem Row3.alloc {W : World} {p : Nat} {x y z : Value} (h : Row3 W p x y z) (o : Obj) : Row3 (W.alloc o) p x y z :=
  have l := h.lt
  ⟨cAlloc h.1, cAlloc h.2.1, cAlloc h.2.2.1, fAlloc l h.2.2.2.1, fAlloc l h.2.2.2.2.1, fAlloc l h.2.2.2.2.2⟩
theorem Row3.set {W : World} {p : Nat} {x y z : Value} (h : Row3 W p x y z) {a : Addr} (ha : a.block ≠ p) (u : Value) : Row3 (W.setCell a u) p x y z :=
  ⟨cSet ha h.1, cSet ha h.2.1, cSet ha h.2.2.1, fSet (Ne.symm ha) h.2.2.2.1, fSet (Ne.symm ha) h.2.2.2.2.1, fSet (Ne.symm ha) h.2.2.2.2.2⟩

theorem Row3.new (W : World) (x y z : Value) (t : Nat) : Row3 (W.alloc (.cells #[x, y, z] t)) W.heap.size x y z := by
  unfold Row3; simp [go_sem]

theorem Row3.put {W : World} {p : Nat} {x y z : Value} (h : Row3 W p x y z) (x' y' z' : Value) :
    Row3 (((W.setCell ⟨p, 0, none⟩ x').setCell ⟨p, 1, none⟩ y').setCell ⟨p, 2, none⟩ z') p x' y' z' := by
  obtain ⟨h0, h1, h2, f0, f1, f2⟩ := h
  unfold Row3; simp [go_sem, h0, h1, h2, f0, f1, f2]

theorem Row3.put2 {W : World} {p : Nat} {x y z : Value} (h : Row3 W p x y z) (z' : Value) : Row3 (W.setCell ⟨p, 2, none⟩ z') p x y z' := by
  obtain ⟨h0, h1, h2, f0, f1, f2⟩ := h
  unfold Row3; simp [go_sem, h0, h1, h2, f0, f1, f2]
theorem Row3.put01 {W : World} {p : Nat} {x y z : Value} (h : Row3 W p x y z) (x' y' : Value) : Row3 ((W.setCell ⟨p, 0, none⟩ x').setCell ⟨p, 1, none⟩ y') p x' y' z := by
  obtain ⟨h0, h1, h2, f0, f1, f2⟩ := h
  unfold Row3; simp [go_sem, h0, h1, h2, f0, f1, f2]

/-- a call's own block at N + 2, all below N kept -/
def St (N : Nat) (w W : World) (x y z : Value) : Prop := Below N w W ∧ N + 3 ≤ W.heap.size ∧ Row3 W (N + 2) x y z
theorem St.drew {N : Nat} {w W : World} {x y z : Value} (h : St N w W x y z) : St N w W.drew x y z := ⟨h.1.drew, h.2.1, h.2.2⟩
theorem St.below {N : Nat} {w W W' : World} {x y z : Value} (h : St N w W x y z) (hb : Below W.heap.size W W') : St N w W' x y z :=
  ⟨h.1.trans (hb.mono (by have := h.2.1; omega)), Nat.le_trans h.2.1 hb.size, h.2.2.below hb⟩
theorem St.alloc {N : Nat} {w W : World} {x y z : Value} (h : St N w W x y z) (o : Obj) : St N w (W.alloc o) x y z :=
  ⟨h.1.alloc (by have := h.2.1; omega) o, by have := h.2.1; simp; omega, h.2.2.alloc o⟩
theorem St.set {N : Nat} {w W : World} {x y z : Value} (h : St N w W x y z) {a : Addr} (ha : N + 3 ≤ a.block) (u : Value) : St N w (W.setCell a u) x y z :=
  ⟨h.1.setCell (by omega) u, by simpa using h.2.1, h.2.2.set (by omega) u⟩

def Full (N : Nat) (w : World) (a0 a1 a2 b0 b1 b2 : Value) (W : World) : Prop :=
  W.cell? ⟨N, 0, none⟩ = some a0 ∧ W.cell? ⟨N, 1, none⟩ = some a1 ∧ W.cell? ⟨N, 2, none⟩ = some a2 ∧
  W.cell? ⟨N + 1, 0, none⟩ = some b0 ∧ W.cell? ⟨N + 1, 1, none⟩ = some b1 ∧ W.cell? ⟨N + 1, 2, none⟩ = some b2 ∧ St N w W (.int .u64 0) (.int .u64 0) (.int .u64 0)
theorem Full.drew {N : Nat} {w W : World} {a0 a1 a2 b0 b1 b2 : Value} (h : Full N w a0 a1 a2 b0 b1 b2 W) : Full N w a0 a1 a2 b0 b1 b2 W.drew :=
  ⟨h.1, h.2.1, h.2.2.1, h.2.2.2.1, h.2.2.2.2.1, h.2.2.2.2.2.1, h.2.2.2.2.2.2.drew⟩
theorem Full.below {N : Nat} {w W W' : World} {a0 a1 a2 b0 b1 b2 : Value} (h : Full N w a0 a1 a2 b0 b1 b2 W) (hb : Below W.heap.size W W') : Full N w a0 a1 a2 b0 b1 b2 W' :=
  ⟨kcell hb h.1, kcell hb h.2.1, kcell hb h.2.2.1, kcell hb h.2.2.2.1, kcell hb h.2.2.2.2.1, kcell hb h.2.2.2.2.2.1, h.2.2.2.2.2.2.below hb⟩
theorem Full.alloc {N : Nat} {w W : World} {a0 a1 a2 b0 b1 b2 : Value} (h : Full N w a0 a1 a2 b0 b1 b2 W) (o : Obj) : Full N w a0 a1 a2 b0 b1 b2 (W.alloc o) :=
  ⟨cAlloc h.1, cAlloc h.2.1, cAlloc h.2.2.1, cAlloc h.2.2.2.1, cAlloc h.2.2.2.2.1, cAlloc h.2.2.2.2.2.1, h.2.2.2.2.2.2.alloc o⟩
theorem Full.set {N : Nat} {w W : World} {a0 a1 a2 b0 b1 b2 : Value} (h : Full N w a0 a1 a2 b0 b1 b2 W) {a : Addr} (ha : N + 3 ≤ a.block) (u : Value) : Full N w a0 a1 a2 b0 b1 b2 (W.setCell a u) :=
  ⟨cSet (by simp; omega) h.1, cSet (by simp; omega) h.2.1, cSet (by simp; omega) h.2.2.1, cSet (by simp; omega) h.2.2.2.1, cSet (by simp; omega) h.2.2.2.2.1, cSet (by simp; omega) h.2.2.2.2.2.1, h.2.2.2.2.2.2.set ha u⟩

theorem full_start (w : World) (a0 a1 a2 b0 b1 b2 : Value) (t : Nat) :
    Full w.heap.size w a0 a1 a2 b0 b1 b2 (((w.alloc (.cells #[a0, a1, a2] t)).alloc (.cells #[b0, b1, b2] t)).alloc (.cells #[.int .u64 0, .int .u64 0, .int .u64 0] t)) := by
  have h1 := Row3.new w a0 a1 a2 t
  have h2 := Row3.new (w.alloc (.cells #[a0, a1, a2] t)) b0 b1 b2 t
  have h3 := Row3.new ((w.alloc (.cells #[a0, a1, a2] t)).alloc (.cells #[b0, b1, b2] t)) (.int .u64 0) (.int .u64 0) (.int .u64 0) t
  have g1 := (h1.alloc (.cells #[b0, b1, b2] t)).alloc (.cells #[.int .u64 0, .int .u64 0, .int .u64 0] t)
  have g2 := h2.alloc (.cells #[.int .u64 0, .int .u64 0, .int .u64 0] t)
  simp only [World.size_alloc] at g2 h3
  exact ⟨g1.1, g1.2.1, g1.2.2.1, g2.1, g2.2.1, g2.2.2.1, (((Below.refl _ _).alloc (Nat.le_refl _) _).alloc (by simp) _).alloc (by simp; omega) _, by simp, h3⟩
end Go.Proofs.YtklaonoekmhakaaGreat

namespace Go.Proofs.YtklaonoekmhakaaGreat
open Go.RowKit

set_option maxHeartbeats 800000 in
theorem splus_lt (a b r s m : Int) (w : World) (r1 : 0 ≤ r) (r2 : r < 9223372036854775808) (s1 : 0 ≤ s) (s2 : s < 9223372036854775808) (h : r + s < m) :
    Calls Tryz.prog 129 #[.agg #[.int .u64 (hiW a), .int .u64 (loW a), .int .u64 r], .agg #[.int .u64 (hiW b), .int .u64 (loW b), .int .u64 s], .int .u64 m] w fun e w' =>
      e = .returned (.agg #[.int .u64 (hiW (a + b)), .int .u64 (loW (a + b)), .int .u64 (r + s)]) ∧ Below w.heap.size w w' := by
  have hw : IntKind.u64.wrap (r + s) = r + s := by
    simp [IntKind.wrap, IntKind.bits, IntKind.signed]; omega
  have HF := Lib.hid (full_start w (.int .u64 (hiW a)) (.int .u64 (loW a)) (.int .u64 r) (.int .u64 (hiW b)) (.int .u64 (loW b)) (.int .u64 s) 162)
  go_enter Tryz.func129, Tryz.ntmps129
  go_upto_region 1 with fail
  obtain ⟨W0, hW0⟩ : ∃ W0, W0 = (((w.alloc (.cells #[.int .u64 (hiW a), .int .u64 (loW a), .int .u64 r] 162)).alloc (.cells #[.int .u64 (hiW b), .int .u64 (loW b), .int .u64 s] 162)).alloc (.cells #[.int .u64 0, .int .u64 0, .int .u64 0] 162)) := ⟨_, rfl⟩
  rw [← hW0] at HF
  rw [← hW0]
  clear hW0
  have hN : w.heap.size + 3 ≤ W0.heap.size := HF.out.2.2.2.2.2.2.2.1
  go_cut [7] (fun s7 wx => ∃ p : Nat, s7 = .pointer (some ⟨p, 0, none⟩) ∧ w.heap.size + 3 ≤ p ∧ Row3 wx p (.int .u64 (hiW (a + b))) (.int .u64 (loW (a + b))) (.int .u64 (r + s)) ∧ St w.heap.size w wx (.int .u64 0) (.int .u64 0) (.int .u64 0))
  case first =>
    go_region_held3 (fun w' => w'.cell? ⟨w.heap.size, 0, none⟩ = some (.int .u64 (hiW a)) ∧ w'.cell? ⟨w.heap.size, 1, none⟩ = some (.int .u64 (loW a)) ∧ w'.cell? ⟨w.heap.size, 2, none⟩ = some (.int .u64 r)
       ∧ w'.cell? ⟨w.heap.size + 1, 0, none⟩ = some (.int .u64 (hiW b)) ∧ w'.cell? ⟨w.heap.size + 1, 1, none⟩ = some (.int .u64 (loW b)) ∧ w'.cell? ⟨w.heap.size + 1, 2, none⟩ = some (.int .u64 s) ∧ St w.heap.size w w' (.int .u64 0) (.int .u64 0) (.int .u64 0))
      ((change Full w.heap.size w _ _ _ _ _ _ _; with_reducible (first | exact HF.out.drew | exact kF.out | exact kF.out.alloc _ | exact (HF.out.alloc _).drew | exact ((kF.out.set hN _).set hN _).set hN _ )))
      (first | (go_at_call 50; ((with_reducible refine (plus_any a b _).mono ?_); rintro e w' ⟨rfl, hb⟩; first | with_reducible (have kF := Lib.hid (HF.out.drew.below hb)) | ((with_reducible have kF := Lib.hid ((HF.out.alloc _).drew.below hb)); obtain ⟨n0, n1, n2, f0, f1, f2⟩ := (Row3.new W0 (.int .u64 0) (.int .u64 0) (.int .u64 0) 162).drew.below hb))))
    · go_wp2_with fail
      go_meet
      exact ⟨_, rfl, kF.out.2.2.2.2.2.2.2.1, Row3.new _ _ _ _ _, kF.out.2.2.2.2.2.2.alloc _⟩
    · go_wp2_with fail
      go_meet
      exact ⟨_, rfl, hN, Row3.put ⟨n0, n1, n2, f0, f1, f2⟩ _ _ _, ((kF.out.2.2.2.2.2.2.set hN _).set hN _).set hN _⟩
  case rest =>
    obtain ⟨p, rfl, hp, ⟨c0, c1, c2, e0, e1, e2⟩, hb, hs, d0, d1, d2, g0, g1, g2⟩ := hcut
    clear HF hN
    go_wp2
    exact bodyPost_ret (v := .agg #[.int .u64 (hiW (a + b)), .int .u64 (loW (a + b)), .int .u64 (r + s)]) (by simp [results, Tryz.results129, go_sem, d0, d1, d2]) rfl
      ⟨rfl, ((hb.setCell (by simp; omega) _).setCell (by simp; omega) _).setCell (by simp; omega) _⟩

set_option maxHeartbeats 800000 in
theorem splus_ge (a b r s m : Int) (w : World) (r1 : 0 ≤ r) (r2 : r < 9223372036854775808) (s1 : 0 ≤ s) (s2 : s < 9223372036854775808) (h : m ≤ r + s) (hm : 1 ≤ m) (hm2 : m ≤ 9223372036854775807) :
    Calls Tryz.prog 129 #[.agg #[.int .u64 (hiW a), .int .u64 (loW a), .int .u64 r], .agg #[.int .u64 (hiW b), .int .u64 (loW b), .int .u64 s], .int .u64 m] w fun e w' =>
      e = .returned (.agg #[.int .u64 (hiW (a + b + 1)), .int .u64 (loW (a + b + 1)), .int .u64 (r + s - m)]) ∧ Below w.heap.size w w' := by
  have hw : IntKind.u64.wrap (r + s) = r + s := by
    simp [IntKind.wrap, IntKind.bits, IntKind.signed]; omega
  have hv : IntKind.u64.wrap (r + s - m) = r + s - m := by
    simp [IntKind.wrap, IntKind.bits, IntKind.signed]; omega
  have HF := Lib.hid (full_start w (.int .u64 (hiW a)) (.int .u64 (loW a)) (.int .u64 r) (.int .u64 (hiW b)) (.int .u64 (loW b)) (.int .u64 s) 162)
  go_enter Tryz.func129, Tryz.ntmps129
  go_upto_region 1 with fail
  obtain ⟨W0, hW0⟩ : ∃ W0, W0 = (((w.alloc (.cells #[.int .u64 (hiW a), .int .u64 (loW a), .int .u64 r] 162)).alloc (.cells #[.int .u64 (hiW b), .int .u64 (loW b), .int .u64 s] 162)).alloc (.cells #[.int .u64 0, .int .u64 0, .int .u64 0] 162)) := ⟨_, rfl⟩
  rw [← hW0] at HF
  rw [← hW0]
  clear hW0
  have hN : w.heap.size + 3 ≤ W0.heap.size := HF.out.2.2.2.2.2.2.2.1
  go_cut [7] (fun s7 wx => ∃ p : Nat, s7 = .pointer (some ⟨p, 0, none⟩) ∧ w.heap.size + 3 ≤ p ∧ Row3 wx p (.int .u64 (hiW (a + b))) (.int .u64 (loW (a + b))) (.int .u64 (r + s)) ∧ St w.heap.size w wx (.int .u64 0) (.int .u64 0) (.int .u64 0))
  case first =>
    go_region_held3 (fun w' => w'.cell? ⟨w.heap.size, 0, none⟩ = some (.int .u64 (hiW a)) ∧ w'.cell? ⟨w.heap.size, 1, none⟩ = some (.int .u64 (loW a)) ∧ w'.cell? ⟨w.heap.size, 2, none⟩ = some (.int .u64 r)
       ∧ w'.cell? ⟨w.heap.size + 1, 0, none⟩ = some (.int .u64 (hiW b)) ∧ w'.cell? ⟨w.heap.size + 1, 1, none⟩ = some (.int .u64 (loW b)) ∧ w'.cell? ⟨w.heap.size + 1, 2, none⟩ = some (.int .u64 s) ∧ St w.heap.size w w' (.int .u64 0) (.int .u64 0) (.int .u64 0))
      ((change Full w.heap.size w _ _ _ _ _ _ _; with_reducible (first | exact HF.out.drew | exact kF.out | exact kF.out.alloc _ | exact (HF.out.alloc _).drew | exact ((kF.out.set hN _).set hN _).set hN _ )))
      (first | (go_at_call 50; ((with_reducible refine (plus_any a b _).mono ?_); rintro e w' ⟨rfl, hb⟩; first | with_reducible (have kF := Lib.hid (HF.out.drew.below hb)) | ((with_reducible have kF := Lib.hid ((HF.out.alloc _).drew.below hb)); obtain ⟨n0, n1, n2, f0, f1, f2⟩ := (Row3.new W0 (.int .u64 0) (.int .u64 0) (.int .u64 0) 162).drew.below hb))))
    · go_wp2_with fail
      go_meet
      exact ⟨_, rfl, kF.out.2.2.2.2.2.2.2.1, Row3.new _ _ _ _ _, kF.out.2.2.2.2.2.2.alloc _⟩
    · go_wp2_with fail
      go_meet
      exact ⟨_, rfl, hN, Row3.put ⟨n0, n1, n2, f0, f1, f2⟩ _ _ _, ((kF.out.2.2.2.2.2.2.set hN _).set hN _).set hN _⟩
  case rest =>
    obtain ⟨p, rfl, hp, hR, hS⟩ := hcut
    clear HF hN
    have HR := Lib.hid (hR.put2 (.int .u64 (r + s - m)))
    have HS := Lib.hid (hS.set (a := ⟨p, 2, none⟩) hp (.int .u64 (r + s - m)))
    obtain ⟨c0, c1, c2, e0, e1, e2⟩ := hR
    clear hS
    go_wp2_with fail
    obtain ⟨Wd, hWd⟩ : ∃ Wd, Wd = wc.setCell ⟨p, 2, none⟩ (.int .u64 (r + s - m)) := ⟨_, rfl⟩
    rw [← hWd] at HR HS
    rw [← hWd]
    clear hWd c0 c1 c2 e0 e1 e2
    obtain ⟨c0, c1, c2, e0, e1, e2⟩ := HR.out
    go_region_with (first | (go_at_call 51; ((with_reducible refine (widen_any 1 _ (by omega) (by omega)).mono ?_); rintro e w1 ⟨rfl, hb1⟩; have kR1 := Lib.hid (HR.out.drew.below hb1); have kS1 := Lib.hid (HS.out.drew.below hb1); obtain ⟨x0, x1, x2, y0, y1, y2⟩ := kR1.out)) | (go_at_call 50; ((with_reducible refine (plus_any (a + b) 1 _).mono ?_); rintro e w2 ⟨rfl, hb2⟩; have kR2 := Lib.hid (kR1.out.below hb2); have kS2 := Lib.hid (kS1.out.below hb2); obtain ⟨z0, z1, z2, t0, t1, t2⟩ := kR2.out)))
    all_goals
      have HR3 := Lib.hid (kR2.out.put01 (.int .u64 (hiW (a + b + 1))) (.int .u64 (loW (a + b + 1))))
      have HS3 := Lib.hid ((kS2.out.set (a := ⟨p, 0, none⟩) hp (.int .u64 (hiW (a + b + 1)))).set (a := ⟨p, 1, none⟩) hp (.int .u64 (loW (a + b + 1))))
      obtain ⟨We, hWe⟩ : ∃ We, We = (w2.setCell ⟨p, 0, none⟩ (.int .u64 (hiW (a + b + 1)))).setCell ⟨p, 1, none⟩ (.int .u64 (loW (a + b + 1))) := ⟨_, rfl⟩
      rw [← hWe] at HR3 HS3
      rw [← hWe]
      clear hWe c0 c1 c2 e0 e1 e2 x0 x1 x2 y0 y1 y2 z0 z1 z2 t0 t1 t2 kR1 kS1 kR2 kS2 hb1 hb2 HR HS
      obtain ⟨c0, c1, c2, e0, e1, e2⟩ := HR3.out
      obtain ⟨hb, hs, d0, d1, d2, g0, g1, g2⟩ := HS3.out
      go_wp2
      exact bodyPost_ret (v := .agg #[.int .u64 (hiW (a + b + 1)), .int .u64 (loW (a + b + 1)), .int .u64 (r + s - m)]) (by simp [results, Tryz.results129, go_sem, d0, d1, d2]) rfl
        ⟨rfl, ((hb.setCell (by simp; omega) _).setCell (by simp; omega) _).setCell (by simp; omega) _⟩
end Go.Proofs.YtklaonoekmhakaaGreat
