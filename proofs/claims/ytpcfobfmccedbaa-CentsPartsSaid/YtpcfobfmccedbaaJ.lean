/- Contracts: what awake asks. -/
import Derived.Test.YtpcfobfmccedbaaI
namespace Go.Proofs.Ytpcfobfmccedbaa
open Go.RowKit

theorem awake_add (w : World) : Calls Try.prog 8 #[.int .i64 4611686018427387904, .int .i64 4611686018427387904] w fun e w' => e = .returned (.tuple #[.int .i64 0, .int .i64 3]) ∧ Below w.heap.size w w' := by
  have h := add_any 4611686018427387904 4611686018427387904 w (by omega) (by omega) (by omega) (by omega)
  rw [show tellV (4611686018427387904 + 4611686018427387904) = 0 by decide, show tellE (4611686018427387904 + 4611686018427387904) = 3 by decide] at h
  exact h
theorem awake_less (w : World) : Calls Try.prog 12 #[.int .i64 (-9223372036854775808), .int .i64 1] w fun e w' => e = .returned (.tuple #[.int .i64 0, .int .i64 3]) ∧ Below w.heap.size w w' := by
  have h := less_calls (-9223372036854775808) 1 w (by omega) (by omega) (by omega) (by omega)
  rw [show tellV (-9223372036854775808 - 1) = 0 by decide, show tellE (-9223372036854775808 - 1) = 3 by decide] at h
  exact h
def awakeF : Nat → Int
  | 0 => 9223372036854775807
  | 1 => 5
  | 2 => -7
  | _ => 0
theorem awakeF_ok : Amounts awakeF := by
  intro k
  match k with
  | 0 => decide
  | 1 => decide
  | 2 => decide
  | k + 3 => simp [awakeF]
theorem awake_sum (w : World) (b : Nat) (h0 : w.cell? ⟨b, 0, none⟩ = some (.int .i64 9223372036854775807)) (h1 : w.cell? ⟨b, 1, none⟩ = some (.int .i64 5)) (h2 : w.cell? ⟨b, 2, none⟩ = some (.int .i64 (-7))) :
    Calls Try.prog 14 #[.slice (some ⟨b, 0, none⟩) 3 3] w fun e w' => e = .returned (.tuple #[.int .i64 9223372036854775805, .int .i64 0]) ∧ Below w.heap.size w w' := by
  have h := sum_some awakeF awakeF_ok b 0 3 3 w (by omega) (by
    intro k hk
    match k, hk with
    | 0, _ => exact h0
    | 1, _ => exact h1
    | 2, _ => exact h2)
  rw [show tellV (sumTo awakeF 3) = 9223372036854775805 by decide, show tellE (sumTo awakeF 3) = 0 by decide] at h
  exact h
theorem awake_part (a r : Int) (w : World) (h1 : -100 ≤ a) (h2 : a ≤ 100) (hr : a * 3 / 2 = r) : Calls Try.prog 17 #[.int .i64 a, .int .i64 3, .int .i64 2] w fun e w' => e = .returned (.tuple #[.int .i64 r, .int .i64 0]) ∧ Below w.heap.size w w' := by
  have h := part_any a 3 2 w (by omega) (by omega) (by omega) (by omega) (by omega) (by omega)
  rw [hr, show tellV r = r by unfold tellV; rw [if_pos (by omega)], show tellE r = 0 by unfold tellE; rw [if_pos (by omega)]] at h
  exact h

theorem awake_rest (w : World) : Calls Try.prog 19 #[.int .i64 (-7), .int .i64 3, .int .i64 2] w fun e w' => e = .returned (.tuple #[.int .i64 1, .int .i64 0]) ∧ Below w.heap.size w w' := by
  have h := rest_any (-7) 3 2 w (by omega) (by omega) (by omega) (by omega) (by omega) (by omega)
  rw [show (-7 : Int) * 3 % 2 = 1 by decide] at h
  exact h
theorem awake_clamp (n r : Int) (w : World) (h : clampV n 1 5 = r) : Calls Try.prog 16 #[.int .i64 n, .int .i64 1, .int .i64 5] w fun e w' => e = .returned (.int .i64 r) ∧ w = w' := by
  rw [← h]; exact clamp_any n 1 5 w

set_option maxRecDepth 100000 in
set_option maxHeartbeats 400000 in
theorem awake_any (w : World) : Calls Try.prog 7 #[] w fun e w' => e = .returned (.bool true) ∧ Below w.heap.size w w' := by
  go_enter Try.func7, Try.ntmps7
  go_wp2_with fail
  refine (awake_add _).mono ?_
  rintro e w1 ⟨rfl, hb1⟩
  have B1 := Lib.hid hb1
  clear hb1
  go_wp2_with fail
  refine (awake_less _).mono ?_
  rintro e w2 ⟨rfl, hb2⟩
  have B2 := Lib.hid (B1.out.trans (hb2.mono B1.out.size))
  clear hb2 B1
  go_wp2_with fail
  have R0 := Lib.hid (Row3.new w2 (.int .i64 9223372036854775807) (.int .i64 5) (.int .i64 (-7)) 2)
  refine (awake_sum _ w2.heap.size R0.out.1 R0.out.2.1 R0.out.2.2.1).mono ?_
  rintro e w3 ⟨rfl, hb3⟩
  have B3 := Lib.hid ((B2.out.alloc B2.out.size _).trans (hb3.mono (by simp; have := B2.out.size; omega)))
  clear hb3 B2 R0
  go_wp2_with fail
  refine (awake_part (-7) (-11) _ (by omega) (by omega) (by decide)).mono ?_
  rintro e w4 ⟨rfl, hb4⟩
  have B4 := Lib.hid (B3.out.trans (hb4.mono B3.out.size))
  clear hb4 B3
  go_wp2_with fail
  refine (awake_part 7 10 _ (by omega) (by omega) (by decide)).mono ?_
  rintro e w5 ⟨rfl, hb5⟩
  have B5 := Lib.hid (B4.out.trans (hb5.mono B4.out.size))
  clear hb5 B4
  go_wp2_with fail
  refine (awake_rest _).mono ?_
  rintro e w6 ⟨rfl, hb6⟩
  have B6 := Lib.hid (B5.out.trans (hb6.mono B5.out.size))
  clear hb6 B5
  go_wp2_with fail
  refine (part_no 1 (-1) 2 _ (by omega)).mono ?_
  rintro e w7 ⟨rfl, rfl⟩
  go_wp2_with fail
  refine (awake_clamp 9 5 _ (by decide)).mono ?_
  rintro e w8 ⟨rfl, rfl⟩
  go_wp2_with fail
  refine (awake_clamp 0 1 _ (by decide)).mono ?_
  rintro e w9 ⟨rfl, rfl⟩
  go_wp2_with fail
  go_ret
  exact ⟨rfl, B6.out⟩
end Go.Proofs.Ytpcfobfmccedbaa
