/- Contracts: bounded, mayBe, number. -/
import Derived.Test.YtmodnkdgkdpacaaDoorCvA
namespace Go.Proofs.YtmodnkdgkdpacaaDoor
open Go.RowKit



set_option maxHeartbeats 4000000 in
theorem bounded_any (y m d : Int) (w : World) (hL : Lg w) (hy : Am y) (hm : Am m) (hd : Am d) :
    Calls Tryd.prog 30 #[.agg #[.int .i64 y, .int .i64 m, .int .i64 d]] w fun e w' => e = .returned (.agg #[.int .i64 (min (max y 1) 2737), .int .i64 (min (max m 1) 12), .int .i64 (min (max d 1) (dim (min (max y 1) 2737) (min (max m 1) 12)))]) ∧ Below w.heap.size w w' := by
  have HL := Lib.hid hL
  have HY := Lib.hid hy
  have HM := Lib.hid hm
  have HD := Lib.hid hd
  clear hL hy hm hd
  go_enter Tryd.func30, Tryd.ntmps30
  go_wp2_with fail
  all_goals (go_quiet (first | (go_at_call 19; with_reducible exact quiet_left (long_any _ _ _ ((HL.out.below (((Below.refl _ _).alloc (Nat.le_refl _) _).alloc (by simp) _)).drewN _) (by unfold Am; omega)))))
  all_goals go_wp2_with fail
  all_goals
    refine bodyPost_ret (v := .agg #[.int .i64 (min (max y 1) 2737), .int .i64 (min (max m 1) 12), .int .i64 (min (max d 1) (dim (min (max y 1) 2737) (min (max m 1) 12)))]) ?_ rfl ⟨rfl, (((blw (((Below.refl _ _).alloc (Nat.le_refl _) _).alloc (by simp) _) nq).setCell (by simp) _).setCell (by simp) _).setCell (by simp) _⟩
    first | rw [show min (max y 1) 2737 = 2737 by omega] | rw [show min (max y 1) 2737 = 1 by omega] | rw [show min (max y 1) 2737 = y by omega]
    first | rw [show min (max m 1) 12 = 12 by omega] | rw [show min (max m 1) 12 = 1 by omega] | rw [show min (max m 1) 12 = m by omega]
    simp [results, Tryd.results30, go_sem]
    omega
end Go.Proofs.YtmodnkdgkdpacaaDoor
