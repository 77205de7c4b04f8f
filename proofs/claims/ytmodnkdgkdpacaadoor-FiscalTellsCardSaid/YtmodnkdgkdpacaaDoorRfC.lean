/- Contract of the document's answer: Move. -/
import Derived.Test.YtmodnkdgkdpacaaDoorRfB
namespace Go.Proofs.YtmodnkdgkdpacaaDoor
open Go.RowKit

theorem rdate_is (n y m d : Int) (w : World) (hI : Isd n y m d) :
    Calls Tryd.prog 23 #[.int .i64 n] w fun e w' => e = .returned (.tuple #[.int .i64 y, .int .i64 m, .int .i64 d, .int .i64 0]) ∧ Below w.heap.size w w' := by
  have hb := isd_bd hI
  refine (rdate_yes n w hb.1 hb.2).mono ?_
  rintro e w' ⟨y', m', d', rfl, h, b⟩
  obtain ⟨rfl, rfl, rfl⟩ := isd_one h hI
  exact ⟨rfl, b⟩

/-- what Move tells of a day of the month, so many months behind the first of all -/
def MvPost (w : World) (K d : Int) (e : Ending) (w' : World) : Prop :=
  e = .returned (.tuple #[.int .i64 (if 0 ≤ K ∧ K ≤ 32843 then mto K d else 0), .int .i64 (if 0 ≤ K ∧ K ≤ 32843 then 0 else 1)]) ∧ Below w.heap.size w w'
theorem mv_yes {w w' : World} {K d : Int} (h : 0 ≤ K ∧ K ≤ 32843) (hb : Below w.heap.size w w') : MvPost w K d (.returned (.tuple #[.int .i64 (mto K d), .int .i64 0])) w' := by
  unfold MvPost; rw [if_pos h, if_pos h]; exact ⟨rfl, hb⟩
theorem mv_no {w w' : World} {K d : Int} (h : ¬ (0 ≤ K ∧ K ≤ 32843)) (hb : Below w.heap.size w w') : MvPost w K d (.returned (.tuple #[.int .i64 0, .int .i64 1])) w' := by
  unfold MvPost; rw [if_neg h, if_neg h]; exact ⟨rfl, hb⟩

end Go.Proofs.YtmodnkdgkdpacaaDoor
