/- JournalGoes: whatever its arguments. -/
import Derived.Test.YtjffcgimdffkoaaDoorJnGo
namespace Go.Proofs.YtjffcgimdffkoaaDoor
open Go.RowKit

set_option maxRecDepth 100000 in
set_option maxHeartbeats 4000000 in
theorem goes_any (w : World) (n : Int) (a : Option Addr) (len cap : Nat) (L : Nat → OpJ) (a' : Option Addr) (len' cap' : Nat) (L' : Nat → OpJ) (hL : OpsJ w a len L) (hl : len ≤ 9223372036854775807) (hL' : OpsJ w a' len' L') (hl' : len' ≤ 9223372036854775807) (hn9 : -9223372036854775808 ≤ n ∧ n ≤ 9223372036854775807) (hT : Tb w) :
    Calls Tryd.prog 4 #[.int .i64 n, .slice a len cap, .slice a' len' cap'] w fun e w' => e = .returned (.bool true) ∧ Below w.heap.size w w' := by
  by_cases h60 : n ≤ 60
  · by_cases h30 : len ≤ 30
    · by_cases h30' : len' ≤ 30
      · by_cases h3 : 3 ≤ n
        · exact goes_main w n a len cap L a' len' cap' L' hL hL' h3 h60 h30 h30' hT
        · have HT := Lib.hid hT
          have HL := Lib.hid hL
          have HL' := Lib.hid hL'
          have hn60 : ¬ (60 < n) := by omega
          have hl30 : ¬ (30 < (len : Int)) := by omega
          have hl30' : ¬ (30 < (len' : Int)) := by omega
          clear hT hL hL'
          go_enter Tryd.func4, Tryd.ntmps4
          go_wp2_with fail
          refine (jn_awake w HT.out).mono ?_
          rintro e w1 ⟨rfl, hb1⟩
          have B1 := Lib.hid hb1
          clear hb1
          go_wp2_with fail
          refine (size_any w1 a len cap L (HL.out.up B1.out) (by omega)).mono ?_
          rintro e w' ⟨N, rfl, ⟨hN0, hN1⟩, hN, rfl⟩
          clear hN
          go_wp2_with fail
          refine (size_any w1 a' len' cap' L' (HL'.out.up B1.out) (by omega)).mono ?_
          rintro e w' ⟨N', rfl, ⟨hN0', hN1'⟩, hN', rfl⟩
          clear hN'
          by_cases h4 : N + N' ≤ 4000
          · have h4' : ¬ (4000 < N + N') := by omega
            go_wp2_with fail
            refine (new_no w1 n (by omega)).mono ?_
            rintro e w' ⟨rfl, rfl⟩
            go_wp2_with fail
            refine (new_no w1 n (by omega)).mono ?_
            rintro e w' ⟨rfl, rfl⟩
            go_wp2
            go_ret
            exact ⟨rfl, B1.out⟩
          · have h4' : 4000 < N + N' := by omega
            go_wp2
            go_ret
            exact ⟨rfl, B1.out⟩
      · have HT := Lib.hid hT
        have hn60 : ¬ (60 < n) := by omega
        have hl30 : ¬ (30 < (len : Int)) := by omega
        have hl30' : 30 < (len' : Int) := by omega
        clear hT hL hL'
        go_enter Tryd.func4, Tryd.ntmps4
        go_wp2_with fail
        refine (jn_awake w HT.out).mono ?_
        rintro e w1 ⟨rfl, hb1⟩
        have B1 := Lib.hid hb1
        clear hb1
        go_wp2
        go_ret
        exact ⟨rfl, B1.out⟩
    · have HT := Lib.hid hT
      have hn60 : ¬ (60 < n) := by omega
      have hl30 : 30 < (len : Int) := by omega
      clear hT hL hL'
      go_enter Tryd.func4, Tryd.ntmps4
      go_wp2_with fail
      refine (jn_awake w HT.out).mono ?_
      rintro e w1 ⟨rfl, hb1⟩
      have B1 := Lib.hid hb1
      clear hb1
      go_wp2
      go_ret
      exact ⟨rfl, B1.out⟩
  · have HT := Lib.hid hT
    have hn60 : 60 < n := by omega
    clear hT hL hL'
    go_enter Tryd.func4, Tryd.ntmps4
    go_wp2_with fail
    refine (jn_awake w HT.out).mono ?_
    rintro e w1 ⟨rfl, hb1⟩
    have B1 := Lib.hid hb1
    clear hb1
    go_wp2
    go_ret
    exact ⟨rfl, B1.out⟩
end Go.Proofs.YtjffcgimdffkoaaDoor
