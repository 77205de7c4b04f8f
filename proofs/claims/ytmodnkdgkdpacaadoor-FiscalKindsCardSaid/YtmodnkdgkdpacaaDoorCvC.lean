/- Contracts: mayBe, number, Days. -/
import Derived.Test.YtmodnkdgkdpacaaDoorCvB
namespace Go.Proofs.YtmodnkdgkdpacaaDoor
open Go.RowKit


instance (y m d : Int) : Decidable (May y m d) := by unfold May; infer_instance
def mayB (y m d : Int) : Bool := decide (May y m d)
theorem bd_same {y m d : Int} : (y = min (max y 1) 2737 ∧ m = min (max m 1) 12 ∧ d = min (max d 1) (dim (min (max y 1) 2737) (min (max m 1) 12))) ↔ May y m d := by
  unfold May
  constructor
  · rintro ⟨h1, h2, h3⟩
    have a1 : 1 ≤ y ∧ y ≤ 2737 := by omega
    have a2 : 1 ≤ m ∧ m ≤ 12 := by omega
    rw [← h1, ← h2] at h3
    have := dim_pos (y := y) (m := m) a1.1 a2.1 a2.2
    omega
  · rintro ⟨h1, h2, h3, h4, h5, h6⟩
    have e1 : min (max y 1) 2737 = y := by omega
    have e2 : min (max m 1) 12 = m := by omega
    rw [e1, e2]; omega

set_option maxHeartbeats 1000000 in
theorem number_any (y m d : Int) (w : World) (hL : Lg w) (hM : May y m d) :
    Calls Tryd.prog 31 #[.agg #[.int .i64 y, .int .i64 m, .int .i64 d]] w fun e w' => e = .returned (.int .i64 (num y m d)) ∧ Below w.heap.size w w' := by
  have HL := Lib.hid hL
  have h31 := dim_bd y m
  have HI := isd_bd (isd_of hM)
  obtain ⟨y1, y2, m1, m2, d1, d2⟩ := hM
  have hd := dby_bd y1 (by omega)
  have d3 : d ≤ 31 := by omega
  have fin : num y m d = dby y + d + cum y m := by unfold num; omega
  rw [fin]; clear fin
  have i1 : IntKind.i64.wrap (dby y + d) = dby y + d := by rw [IntKind.wrap_i64]; omega
  clear hL HI h31 d2
  go_enter Tryd.func31, Tryd.ntmps31
  go_wp2_with fail
  obtain ⟨W0, hW0⟩ : ∃ W0, W0 = w.alloc (.cells #[.int .i64 y, .int .i64 m, .int .i64 d] 47) := ⟨_, rfl⟩
  have c0 : W0.cell? ⟨w.heap.size, 0, none⟩ = some (.int .i64 y) := by rw [hW0]; simp [go_sem]
  have c1 : W0.cell? ⟨w.heap.size, 1, none⟩ = some (.int .i64 m) := by rw [hW0]; simp [go_sem]
  have c2 : W0.cell? ⟨w.heap.size, 2, none⟩ = some (.int .i64 d) := by rw [hW0]; simp [go_sem]
  have HB : Hid (Below w.heap.size w W0) := by rw [hW0]; exact boxed _ _
  have HL0 := Lib.hid (HL.out.below HB.out)
  rw [← hW0]
  clear hW0
  go_quiet (first | (go_at_call 37; with_reducible exact quiet_left (ahead_any _ _ (by omega) (by omega))))
  clear i1
  go_wp2_with fail
  go_loop [3, 4] (fun n i => ∃ k : Int, 1 ≤ k ∧ k ≤ m ∧ i = .int .i64 k ∧ n = .int .i64 (dby y + d + cum y k)) (fun _ i => (m - intOf i).toNat)
  case atStart => exact ⟨1, by omega, m1, rfl, by rw [cum_one]; simp⟩
  case round =>
    obtain ⟨k, k1, k2, rfl, rfl⟩ := hrel
    have b1 := cum_bd (y := y) k1 (by omega)
    have b2 := dim_bd y k
    by_cases hlt : k < m
    · have nx := Lib.hid (cum_next y1 k1 (by omega))
      go_wp2_with (go_at_call 19; (with_reducible refine (long_any y k _ (HL0.out.drewN _) (by unfold Am; omega)).mono ?_); rintro e w' ⟨rfl, rfl⟩)
      go_round
      case rel => exact ⟨k + 1, by omega, by omega, by go_num, by rw [nx.out]; go_num⟩
      case measure => simp [intOf]; omega
    · have : k = m := by omega
      subst this
      go_wp2_with fail
      go_ret
      exact ⟨rfl, blw HB.out nq⟩

end Go.Proofs.YtmodnkdgkdpacaaDoor
