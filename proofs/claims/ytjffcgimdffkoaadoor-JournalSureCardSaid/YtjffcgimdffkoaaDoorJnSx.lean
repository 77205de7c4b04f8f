/- JournalSure: whatever its arguments. -/
import Derived.Test.YtjffcgimdffkoaaDoorJnSu
namespace Go.Proofs.YtjffcgimdffkoaaDoor
open Go.RowKit

set_option maxRecDepth 100000 in
set_option maxHeartbeats 4000000 in
theorem sure_any (w : World) (n : Int) (a : Option Addr) (len cap : Nat) (L : Nat → OpJ) (f0 f1 f2 f3 : Int) (hL : OpsJ w a len L) (hl : len ≤ 9223372036854775807) (hn9 : -9223372036854775808 ≤ n ∧ n ≤ 9223372036854775807) (hf0 : f0 ≤ 9223372036854775807) (hf2 : f2 ≤ 9223372036854775807) (hT : Tb w) :
    Calls Tryd.prog 3 #[.int .i64 n, .slice a len cap, .agg #[.int .i64 f0, .int .i64 f1, .int .i64 f2, .int .i64 f3]] w fun e w' => e = .returned (.bool true) ∧ Below w.heap.size w w' := by
  by_cases h60 : n ≤ 60
  · by_cases h30 : len ≤ 30
    · by_cases h3 : 3 ≤ n
      · exact sure_main w n a len cap L f0 f1 f2 f3 hL h3 h60 h30 hf0 hf2 hT
      · have HT := Lib.hid hT
        have HL := Lib.hid hL
        have hb0 := Lib.hid (boxed w (.cells #[.int .i64 f0, .int .i64 f1, .int .i64 f2, .int .i64 f3] 24))
        have hn60 : ¬ (60 < n) := by omega
        have hl30 : ¬ (30 < (len : Int)) := by omega
        clear hT hL
        go_enter Tryd.func3, Tryd.ntmps3
        go_wp2_with fail
        refine (jn_awake _ (HT.out.old hb0.out)).mono ?_
        rintro e w1 ⟨rfl, hb1⟩
        have B1 := Lib.hid (lots hb0.out hb1)
        clear hb1
        go_wp2_with fail
        refine (size_any w1 a len cap L (HL.out.up B1.out) (by omega)).mono ?_
        rintro e w' ⟨N, rfl, ⟨hN0, hN1⟩, hN, rfl⟩
        clear hN
        by_cases h4 : N ≤ 4000
        · have h4' : ¬ (4000 < N) := by omega
          go_wp2_with fail
          refine (new_no w1 n (by omega)).mono ?_
          rintro e w' ⟨rfl, rfl⟩
          go_wp2
          go_ret
          exact ⟨rfl, B1.out⟩
        · have h4' : 4000 < N := by omega
          go_wp2
          go_ret
          exact ⟨rfl, B1.out⟩
    · have HT := Lib.hid hT
      have hb0 := Lib.hid (boxed w (.cells #[.int .i64 f0, .int .i64 f1, .int .i64 f2, .int .i64 f3] 24))
      have hn60 : ¬ (60 < n) := by omega
      have hl30 : 30 < (len : Int) := by omega
      clear hT hL
      go_enter Tryd.func3, Tryd.ntmps3
      go_wp2_with fail
      refine (jn_awake _ (HT.out.old hb0.out)).mono ?_
      rintro e w1 ⟨rfl, hb1⟩
      have B1 := Lib.hid (lots hb0.out hb1)
      clear hb1
      go_wp2
      go_ret
      exact ⟨rfl, B1.out⟩
  · have HT := Lib.hid hT
    have hb0 := Lib.hid (boxed w (.cells #[.int .i64 f0, .int .i64 f1, .int .i64 f2, .int .i64 f3] 24))
    have hn60 : 60 < n := by omega
    clear hT hL
    go_enter Tryd.func3, Tryd.ntmps3
    go_wp2_with fail
    refine (jn_awake _ (HT.out.old hb0.out)).mono ?_
    rintro e w1 ⟨rfl, hb1⟩
    have B1 := Lib.hid (lots hb0.out hb1)
    clear hb1
    go_wp2
    go_ret
    exact ⟨rfl, B1.out⟩
end Go.Proofs.YtjffcgimdffkoaaDoor
