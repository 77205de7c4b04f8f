/- Arrays of four amounts, held against each other. -/
import Derived.ChangeKeysEq
import Derived.Test.YtiaocahcdbikhaaM
namespace Go.Proofs.Ytiaocahcdbikhaa
open Go.RowKit

theorem infoA : (Try.prog.info? 2).map (fun i => (i.zero, i.size, i.bytes)) = some (some (.int .i64 0), 1, 8) := by kernel_rfl
theorem a4_same (a b c d : Int) (W : World) : (Op.equalIn 10000 39 (.agg #[.int .i64 a, .int .i64 b, .int .i64 c, .int .i64 d]) (.agg #[.int .i64 a, .int .i64 b, .int .i64 c, .int .i64 d])).run Try.prog W = .ok true W := by
  obtain ⟨i, hi, _⟩ := info_parts infoA
  rw [run_equalIn_array W 9999 _ _ Try.underlying39 hi]
  rw [show List.range 4 = [0, 1, 2, 3] by rfl]
  have hc : Try.prog.cellsOf 2 = 1 := by kernel_rfl
  rw [hc]
  simp [Op.eqItems, go_sem]
end Go.Proofs.Ytiaocahcdbikhaa
