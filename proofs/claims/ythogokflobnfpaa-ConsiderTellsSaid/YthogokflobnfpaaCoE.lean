/- awake. -/
import Derived.Test.YthogokflobnfpaaCoD
namespace Go.Proofs.Ythogokflobnfpaa
open Go.RowKit

def aM : List Mb := [⟨50, 6000⟩, ⟨-20, 3000⟩]
def aN : List Mb := [⟨-1, 1⟩]
theorem akM : likE 100 aM 5000 = 0 ∧ likV 100 aM 5000 = 150 ∧ meaE 100 aM = 0 ∧ meaV 100 aM = 124 ∧ likE 100 aM 8000 = 0 ∧ likV 100 aM 8000 = 80 := by decide +kernel
theorem akN : likE (-1) [] 0 = 1 ∧ likV (-1) [] 0 = 0 ∧ meaE 0 aN = 1 ∧ meaV 0 aN = 0 := by decide +kernel
theorem aM_good : ∀ x ∈ aM, mbG x := fun x hx => by
  simp [aM] at hx
  rcases hx with rfl | rfl <;> exact ⟨am_small (by decide) (by decide), am_small (by decide) (by decide)⟩
theorem aN_good : ∀ x ∈ aN, mbG x := fun x hx => by
  simp [aN] at hx
  subst hx; exact ⟨am_small (by decide) (by decide), am_small (by decide) (by decide)⟩
set_option maxRecDepth 100000 in
set_option maxHeartbeats 8000000 in
theorem awake_any12 (w : World) : Calls Try.prog 7 #[] w fun e w' => e = .returned (.bool true) ∧ Below w.heap.size w w' := by
  go_enter Try.func7, Try.ntmps7
  go_wp2_with fail
  obtain ⟨W0, hW0⟩ : ∃ W0, W0 = w.alloc (.cells #[.int .i64 50, .int .i64 6000, .int .i64 (-20), .int .i64 3000] 26) := ⟨_, rfl⟩
  have hM0 := mba_fresh w 26 aM #[.int .i64 50, .int .i64 6000, .int .i64 (-20), .int .i64 3000] rfl
  have hb0 : Below w.heap.size w W0 := by rw [hW0]; exact boxed _ _
  rw [← hW0] at hM0
  rw [← hW0]
  have HB0 := Lib.hid hb0
  have HM0 := Lib.hid hM0
  clear hW0 hM0 hb0
  have h1 := likely_any 100 5000 (some ⟨w.heap.size, 0, none⟩) 2 2 aM W0 rfl HM0.out (am_small (by decide) (by decide)) aM_good
  unfold CopR at h1
  rw [akM.1, akM.2.1] at h1
  refine h1.mono ?_
  clear h1
  rintro e w1 ⟨rfl, hb⟩
  have HM1 := Lib.hid (HM0.out.up hb)
  have HB1 := Lib.hid (up2 HB0.out hb)
  clear hb
  go_wp2_with fail
  have h1 := meanC_any 100 (some ⟨w.heap.size, 0, none⟩) 2 2 aM w1 rfl HM1.out (am_small (by decide) (by decide)) aM_good
  unfold CopR at h1
  rw [akM.2.2.1, akM.2.2.2.1] at h1
  refine h1.mono ?_
  clear h1
  rintro e w2 ⟨rfl, hb⟩
  have HM2 := Lib.hid (HM1.out.up hb)
  have HB2 := Lib.hid (up2 HB1.out hb)
  clear hb
  go_wp2_with fail
  have h1 := likely_any 100 8000 (some ⟨w.heap.size, 0, none⟩) 2 2 aM w2 rfl HM2.out (am_small (by decide) (by decide)) aM_good
  unfold CopR at h1
  rw [akM.2.2.2.2.1, akM.2.2.2.2.2] at h1
  refine h1.mono ?_
  clear h1
  rintro e w3 ⟨rfl, hb⟩
  have HB3 := Lib.hid (up2 HB2.out hb)
  clear hb
  go_wp2_with fail
  have h1 := likely_any (-1) 0 none 0 0 [] w3 rfl (.inl rfl) (am_small (by decide) (by decide)) (fun x hx => by cases hx)
  unfold CopR at h1
  rw [akN.1, akN.2.1] at h1
  refine h1.mono ?_
  clear h1
  rintro e w4 ⟨rfl, hb⟩
  have HB4 := Lib.hid (up2 HB3.out hb)
  clear hb
  go_wp2_with fail
  have hN := mba_fresh w4 26 aN #[.int .i64 (-1), .int .i64 1] rfl
  have h1 := meanC_any 0 (some ⟨w4.heap.size, 0, none⟩) 1 1 aN _ rfl hN (am_small (by decide) (by decide)) aN_good
  unfold CopR at h1
  rw [akN.2.2.1, akN.2.2.2] at h1
  refine h1.mono ?_
  clear h1 hN
  rintro e w5 ⟨rfl, hb⟩
  have HB5 := Lib.hid (up2 (up2 HB4.out (boxed _ _)) hb)
  clear hb
  go_wp2_with fail
  go_ret
  exact ⟨rfl, HB5.out⟩
end Go.Proofs.Ythogokflobnfpaa
