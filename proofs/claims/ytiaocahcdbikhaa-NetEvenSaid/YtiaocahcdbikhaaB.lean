/- Contracts: narrow. -/
import Derived.Test.YtiaocahcdbikhaaA
namespace Go.Proofs.Ytiaocahcdbikhaa
open Go.RowKit


set_option maxHeartbeats 400000 in
theorem narrow_fit (n : Int) (w : World) (h1 : -9223372036854775808 ≤ n) (h2 : n ≤ 9223372036854775807) :
    Calls Try.prog 25 #[.agg #[.int .u64 (hiW n), .int .u64 (loW n)]] w fun e w' =>
      e = .returned (.tuple #[.int .i64 n, .int .i64 0]) ∧ Below w.heap.size w w' := by
  have hn : IntKind.i64.wrap (loW n) = n := by rw [wrap_sgn, sgn_fit n h1 h2]
  go_enter Try.func25, Try.ntmps25
  go_wp2
  go_region_held3 (fun w' => w'.cell? ⟨w.heap.size, 0, none⟩ = some (.int .u64 (hiW n)) ∧ w'.cell? ⟨w.heap.size, 1, none⟩ = some (.int .u64 (loW n)))
    (first | go_keep | (exact ⟨kcell hb (by go_keep), kcell hb (by go_keep)⟩))
    (first | (go_at_call 24; refine (widen_any n _ h1 h2).mono ?_; rintro e w' ⟨rfl, hb⟩))
  go_wp2
  go_ret2
  exact ⟨rfl, (((Below.refl _ _).alloc (Nat.le_refl _) _).drew).trans (hb.mono (by simp))⟩

set_option maxHeartbeats 400000 in
theorem narrow_no (x y m : Int) (w : World) (hm : IntKind.i64.wrap y = m) (h1 : -9223372036854775808 ≤ m) (h2 : m ≤ 9223372036854775807) (hx : (hiW m == x) = false) :
    Calls Try.prog 25 #[.agg #[.int .u64 x, .int .u64 y]] w fun e w' =>
      e = .returned (.tuple #[.int .i64 0, .int .i64 3]) ∧ Below w.heap.size w w' := by
  go_enter Try.func25, Try.ntmps25
  go_wp2
  go_region_held3 (fun w' => w'.cell? ⟨w.heap.size, 0, none⟩ = some (.int .u64 x) ∧ w'.cell? ⟨w.heap.size, 1, none⟩ = some (.int .u64 y))
    (first | go_keep | (exact ⟨kcell hb (by go_keep), kcell hb (by go_keep)⟩))
    (first | (go_at_call 24; refine (widen_any m _ h1 h2).mono ?_; rintro e w' ⟨rfl, hb⟩))
  go_wp2
  go_ret2
  exact ⟨rfl, (((Below.refl _ _).alloc (Nat.le_refl _) _).drew).trans (hb.mono (by simp))⟩

theorem narrow_over (v : Int) (w : World) (h : v < -9223372036854775808 ∨ 9223372036854775807 < v) (h1 : -170141183460469231731687303715884105728 ≤ v) (h2 : v < 170141183460469231731687303715884105728) :
    Calls Try.prog 25 #[.agg #[.int .u64 (hiW v), .int .u64 (loW v)]] w fun e w' =>
      e = .returned (.tuple #[.int .i64 0, .int .i64 3]) ∧ Below w.heap.size w w' :=
  narrow_no (hiW v) (loW v) (sgn (loW v)) w (wrap_sgn _) (sgn_bd _).1 (sgn_bd _).2 (beq_eq_false_iff_ne.2 (hi_sgn v h h1 h2))

/-- the answer of a number that may be no amount -/
def tellV (v : Int) : Int := if -9223372036854775808 ≤ v ∧ v ≤ 9223372036854775807 then v else 0
def tellE (v : Int) : Int := if -9223372036854775808 ≤ v ∧ v ≤ 9223372036854775807 then 0 else 3
def wideOk (v : Int) : Prop := -170141183460469231731687303715884105728 ≤ v ∧ v < 170141183460469231731687303715884105728

theorem narrow_any (v : Int) (w : World) (h : wideOk v) :
    Calls Try.prog 25 #[.agg #[.int .u64 (hiW v), .int .u64 (loW v)]] w fun e w' =>
      e = .returned (.tuple #[.int .i64 (tellV v), .int .i64 (tellE v)]) ∧ Below w.heap.size w w' := by
  unfold tellV tellE
  by_cases hv : -9223372036854775808 ≤ v ∧ v ≤ 9223372036854775807
  · rw [if_pos hv, if_pos hv]; exact narrow_fit v w hv.1 hv.2
  · rw [if_neg hv, if_neg hv]; exact narrow_over v w (by omega) h.1 h.2

set_option maxHeartbeats 400000 in
theorem add_any (a b : Int) (w : World) (a1 : -9223372036854775808 ≤ a) (a2 : a ≤ 9223372036854775807) (b1 : -9223372036854775808 ≤ b) (b2 : b ≤ 9223372036854775807) :
    Calls Try.prog 15 #[.int .i64 a, .int .i64 b] w fun e w' =>
      e = .returned (.tuple #[.int .i64 (tellV (a + b)), .int .i64 (tellE (a + b))]) ∧ Below w.heap.size w w' := by
  have ho : wideOk (a + b) := by unfold wideOk; omega
  go_enter Try.func15, Try.ntmps15
  go_wp2_with fail
  refine (widen_any a _ a1 a2).mono ?_
  rintro e w1 ⟨rfl, hb1⟩
  go_wp2_with fail
  refine (widen_any b _ b1 b2).mono ?_
  rintro e w2 ⟨rfl, hb2⟩
  go_wp2_with fail
  refine (plus_any a b _).mono ?_
  rintro e w3 ⟨rfl, hb3⟩
  go_wp2_with fail
  refine (narrow_any (a + b) _ ho).mono ?_
  rintro e w4 ⟨rfl, hb4⟩
  go_wp2_with fail
  go_ret2
  have s1 := hb1.size; have s2 := hb2.size; have s3 := hb3.size
  exact ⟨rfl, hb1.trans ((hb2.mono (by omega)).trans ((hb3.mono (by omega)).trans (hb4.mono (by omega))))⟩


set_option maxHeartbeats 400000 in
theorem less_calls (a b : Int) (w : World) (a1 : -9223372036854775808 ≤ a) (a2 : a ≤ 9223372036854775807) (b1 : -9223372036854775808 ≤ b) (b2 : b ≤ 9223372036854775807) :
    Calls Try.prog 26 #[.int .i64 a, .int .i64 b] w fun e w' =>
      e = .returned (.tuple #[.int .i64 (tellV (a - b)), .int .i64 (tellE (a - b))]) ∧ Below w.heap.size w w' := by
  have ho : wideOk (a - b) := by unfold wideOk; omega
  go_enter Try.func26, Try.ntmps26
  go_wp2_with fail
  refine (widen_any a _ a1 a2).mono ?_
  rintro e w1 ⟨rfl, hb1⟩
  go_wp2_with fail
  refine (widen_any b _ b1 b2).mono ?_
  rintro e w2 ⟨rfl, hb2⟩
  go_wp2_with fail
  refine (less_any a b _).mono ?_
  rintro e w3 ⟨rfl, hb3⟩
  go_wp2_with fail
  refine (narrow_any (a - b) _ ho).mono ?_
  rintro e w4 ⟨rfl, hb4⟩
  go_wp2_with fail
  go_ret2
  have s1 := hb1.size; have s2 := hb2.size; have s3 := hb3.size
  exact ⟨rfl, hb1.trans ((hb2.mono (by omega)).trans ((hb3.mono (by omega)).trans (hb4.mono (by omega))))⟩
end Go.Proofs.Ytiaocahcdbikhaa
