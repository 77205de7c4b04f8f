/- put, Set. -/
import Derived.Test.YtealaedcjhofbaaBoRun
namespace Go.Proofs.Ytealaedcjhofbaa
open Go.RowKit

/-- the two cells of what is put -/
def TwoC (y : Nat) (d n : Int) (w : World) : Prop := w.cell? ⟨y, 0, none⟩ = some (.int .i64 d) ∧ w.cell? ⟨y, 1, none⟩ = some (.int .i64 n)
theorem TwoC.up {y : Nat} {d n : Int} {w w' : World} (h : TwoC y d n w) (q : Below w.heap.size w w') : TwoC y d n w' := ⟨kcell q h.1, kcell q h.2⟩
set_option maxRecDepth 100000 in
set_option maxHeartbeats 4000000 in
theorem put_any (R : List (Int × Int)) (a : Option Addr) (cap k : Nat) (d n : Int) (w : World) (hR : PrA w a R) (hc : R.length ≤ cap) (hk : 1 ≤ k) (hk2 : k ≤ R.length) (hm : R.length ≤ 1000) :
    Calls Try.prog 23 #[.slice a R.length cap, .int .i64 (k : Int), .agg #[.int .i64 d, .int .i64 n]] w fun e w' => ∃ v, e = .returned v ∧ PutR w R k d n v w' := by
  obtain ⟨b, o, rfl⟩ : ∃ b o, a = some ⟨b, o, none⟩ := by
    rcases hR with z | ⟨b, o, z, _⟩
    · rw [z] at hk2; simp at hk2; omega
    · exact ⟨b, o, z⟩
  obtain ⟨m, hn⟩ : ∃ m, R.length = m := ⟨_, rfl⟩
  obtain ⟨W1, hW1⟩ : ∃ W1, W1 = w.alloc (.cells #[.int .i64 d, .int .i64 n] 55) := ⟨_, rfl⟩
  have hb1 : Below w.heap.size w W1 := by rw [hW1]; exact boxed _ _
  have hX : TwoC w.heap.size d n W1 := by
    have := Has.fresh w 55 #[.int .i64 d, .int .i64 n]
    rw [← hW1] at this
    exact ⟨this.cell 0, this.cell 1⟩
  have hb2 : Below w.heap.size w (W1.alloc (.cells #[.int .i64 d, .int .i64 n] 55)).drew := (hb1.alloc hb1.size _).drew
  have HX1 : Hid (TwoC w.heap.size d n W1.drew) := hX.up (Below.refl _ _).drew
  have HX2 : Hid (TwoC w.heap.size d n (W1.alloc (.cells #[.int .i64 d, .int .i64 n] 55)).drew) := hX.up (boxed _ _).drew
  have hy : Has (W1.alloc (.cells #[.int .i64 d, .int .i64 n] 55)).drew W1.heap.size 55 #[.int .i64 d, .int .i64 n] := Has.fresh W1 _ _
  obtain ⟨ad, had, hif⟩ : ∃ ad, (k < m → ad = ⟨b, o + k * 2, none⟩) ∧ (if cap = k then some (⟨b, o, none⟩ : Addr) else some ⟨b, o + k * 2, none⟩) = some ad := by
    by_cases q : cap = k
    · exact ⟨⟨b, o, none⟩, fun z => by omega, by rw [if_pos q]⟩
    · exact ⟨⟨b, o + k * 2, none⟩, fun _ => rfl, by rw [if_neg q]⟩
  obtain ⟨A1, C1, w3, v2, w4, hr1, hr2, hP, hbx, hby⟩ := put_apps (cap := cap) d n hn (hn ▸ hk2) (hn ▸ hm) (hR.up hb2) hb2 hy ad had
  rw [← hif] at hr2
  have HX3 := Lib.hid (HX2.out.up hbx)
  have HX4 := Lib.hid (HX2.out.up hby)
  have HR1 := Lib.hid hr1
  have HR2 := Lib.hid hr2
  have HP := Lib.hid hP
  have HW1 := Lib.hid hW1
  rw [hn] at hk2 hc ⊢
  have hkc : k ≤ cap := by omega
  clear hR hn hW1 hb1 hb2 hX hy hr1 hr2 hP hm hbx hby had hif
  go_enter Try.func23, Try.ntmps23
  go_wp2_with fail
  rw [← HW1.out]
  obtain ⟨T0, T1⟩ := HX1.out
  go_region_held3 (fun w' => w'.cell? ⟨w.heap.size, 0, none⟩ = some (.int .i64 d) ∧ w'.cell? ⟨w.heap.size, 1, none⟩ = some (.int .i64 n))
    (first | (go_keep; done) | (change TwoC w.heap.size d n _; (first | with_reducible exact HX2.out | with_reducible exact HX1.out | with_reducible exact HX3.out | with_reducible exact HX4.out)))
    (first | (refine step_run (by rfl) (.tmp 12) (.tmp 14) 56 (by rfl) _ _ (by rfl) (by rfl) (S := fun u q => .slice A1 (k + 1) C1 = u ∧ w3 = q) ⟨_, _, HR1.out, rfl, rfl⟩ ?_; rintro u q ⟨rfl, rfl⟩) | (refine step_run (by rfl) (.tmp 15) (.tmp 18) 56 (by rfl) _ _ (by rfl) (by rfl) (S := fun u q => v2 = u ∧ w4 = q) ⟨_, _, HR2.out, rfl, rfl⟩ ?_; rintro u q ⟨rfl, rfl⟩))
  all_goals
    go_wp2_with fail
    all_goals
      go_ret
      exact ⟨_, rfl, HP.out⟩
end Go.Proofs.Ytealaedcjhofbaa
