/- The law CivilMoves, over integers. -/
import Derived.Test.YtjhchfilbaeffaaDoorRfC
namespace Go.Proofs.YtjhchfilbaeffaaDoor
open Go.RowKit

/-- both answers of two integers, alike in every world -/
def Pair (f g : Nat) (xs : Array Value) : Prop := ∃ v e : Int, Hid (∀ W, Lg W → Calls Tryd.prog f xs W fun x w' => x = .returned (.tuple #[.int .i64 v, .int .i64 e]) ∧ Below W.heap.size W w') ∧
  Hid (∀ W, Calls Tryd.prog g xs W fun x w' => x = .returned (.tuple #[.int .i64 v, .int .i64 e]) ∧ Below W.heap.size W w')

theorem same_below {P : Program} {f : FuncId} {xs : Array Value} {w : World} {x : Ending} (h : Calls P f xs w fun e w' => e = x ∧ w = w') : Calls P f xs w fun e w' => e = x ∧ Below w.heap.size w w' :=
  h.mono fun _ _ ⟨a, b⟩ => ⟨a, by rw [← b]; exact Below.refl _ _⟩

theorem move_pair (n q : Int) (hq : Am q) : Pair 19 20 #[.int .i64 n, .int .i64 q] := by
  by_cases h : 1 ≤ n ∧ n ≤ 999668
  · obtain ⟨y, m, d, hI⟩ := isd_some h.1 h.2
    have hm := mah_bd hI.1
    by_cases q1 : 40000 < q
    · exact ⟨0, 1, Lib.hid fun W hL => move_no n y m d q W hL hI hq (by omega), Lib.hid fun W => rmove_over n y m d q W hI q1⟩
    by_cases q2 : q < -40000
    · exact ⟨0, 1, Lib.hid fun W hL => move_no n y m d q W hL hI hq (by omega), Lib.hid fun W => rmove_under n y m d q W hI q2⟩
    have hR := fun W => rmove_some n y m d q W hI (by omega) (by omega)
    by_cases hK : 0 ≤ mah y m + q ∧ mah y m + q ≤ 32843
    · refine ⟨mto (mah y m + q) d, 0, Lib.hid fun W hL => move_yes n y m d q W hL hI (by omega) (by omega), Lib.hid fun W => ?_⟩
      have := hR W
      unfold MvPost at this
      rw [if_pos hK, if_pos hK] at this
      exact this
    · refine ⟨0, 1, Lib.hid fun W hL => move_no n y m d q W hL hI hq (by omega), Lib.hid fun W => ?_⟩
      have := hR W
      unfold MvPost at this
      rw [if_neg hK, if_neg hK] at this
      exact this
  · exact ⟨0, 1, Lib.hid fun W _ => same_below (move_none n q W h), Lib.hid fun W => rmove_none n q W h⟩

set_option maxHeartbeats 1000000 in
theorem moves_any (n q : Int) (w : World) (hL : Lg w) (hq : Am q) :
    Calls Tryd.prog 4 #[.int .i64 n, .int .i64 q] w fun e w' => e = .returned (.bool true) ∧ Below w.heap.size w w' := by
  have HL := Lib.hid hL
  obtain ⟨v, e, C1, C2⟩ := move_pair n q hq
  clear hL hq
  go_enter Tryd.func4, Tryd.ntmps4
  go_wp2_with fail
  refine (awake_any w HL.out).mono ?_
  rintro e w1 ⟨rfl, hb⟩
  have HB1 := Lib.hid hb
  clear hb
  go_wp2_with fail
  refine (C1.out w1 (HL.out.below HB1.out)).mono ?_
  rintro e w2 ⟨rfl, hb⟩
  have HB2 := Lib.hid (up2 HB1.out hb)
  clear hb
  go_wp2_with fail
  refine (C2.out w2).mono ?_
  rintro e w3 ⟨rfl, hb⟩
  have HB3 := Lib.hid (up2 HB2.out hb)
  clear hb
  go_wp2_with fail
  go_ret
  exact ⟨by simp, HB3.out⟩
end Go.Proofs.YtjhchfilbaeffaaDoor
