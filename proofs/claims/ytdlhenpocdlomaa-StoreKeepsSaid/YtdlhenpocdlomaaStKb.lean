/- The core of StoreKeeps, all cases. -/
import Derived.Test.YtdlhenpocdlomaaStKeeps
namespace Go.Proofs.Ytdlhenpocdlomaa
open Go.RowKit

theorem keeps_any (n : Int) (a : Option Addr) (len cap : Nat) (L : Nat → OpD) (x : OpD) (w : World) (hl : len ≤ 9223372036854775807) (hL : Ops w a len L) :
    Calls Try.prog 4 #[.int .i64 n, .slice a len cap, .agg x.cells] w fun e w' => e = .returned (.bool true) ∧ Below w.heap.size w w' := by
  by_cases h1 : 40 < n ∨ 40 < len ∨ 100 < x.x.size
  · exact kz_none n a len cap x w h1 hl
  · by_cases h2 : n < 3
    · exact kz_no n a len cap x w h2 (by omega) (by omega)
    · exact kz_yes n a len cap L x w (by omega) (by omega) (by omega) (by omega) hL
end Go.Proofs.Ytdlhenpocdlomaa
