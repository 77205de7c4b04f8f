/- awake. -/
import Derived.Test.YtobdcogaphkogaaTrE
namespace Go.Proofs.Ytobdcogaphkogaa
open Go.RowKit

def rD1 : Dt := ⟨[], 0, 1, 0, 1, 10⟩
def rL1 : List Sp := [⟨0, 0, 0, 100⟩]
def rL2 : List Sp := [⟨0, 0, 0, 100⟩, ⟨5, 5, 50, 100⟩]
def rL3 : List Sp := [⟨0, 0, 0, 100⟩, ⟨5, 5, 50, 100⟩, ⟨6, 0, 0, 200⟩]
theorem rk1 : dtB rD1 = true := rfl
theorem rk2 : onwE rD1 [] rL1 5 49 = 1 ∧ onwS rD1 [] rL1 5 49 = rL1 := ⟨by decide, rfl⟩
theorem rk3 : onwE rD1 [] rL1 5 150 = 0 ∧ onwS rD1 [] rL1 5 150 = rL2 := ⟨by decide, rfl⟩
theorem rk4 : earV rD1 [] rL2 5 = 50 ∧ earV rD1 [] rL2 8 = 110 ∧ earV rD1 [] rL2 4 = 40 := ⟨by decide, by decide, by decide⟩
theorem rk5 : afrE rL2 4 200 = 11 ∧ afrS rL2 4 200 = rL2 := ⟨by decide, rfl⟩
theorem rk6 : afrE rL2 6 200 = 0 ∧ afrS rL2 6 200 = rL3 := ⟨by decide, rfl⟩
theorem rk7 : earV rD1 [] rL3 6 = 120 ∧ altV rL3 = 200 ∧ (lastS rL3).fr = 6 := ⟨by decide, by decide, by decide⟩
theorem rk8 : (thrV rD1 [] 10 == thrW rD1) = true ∧ (thrV rD1 [] 9 == thrW rD1) = false := ⟨by decide, by decide⟩
theorem rk9 : telE rD1.me [] 1 1 = 1 ∧ telS rD1.me [] 1 1 = [] := ⟨rfl, rfl⟩
set_option maxRecDepth 100000 in
set_option maxHeartbeats 16000000 in
theorem awake_any15 (w : World) : Calls Try.prog 7 #[] w fun e w' => e = .returned (.bool true) ∧ Below w.heap.size w w' := by
  go_enter Try.func7, Try.ntmps7
  go_wp2_with fail
  have h1 := fun (W : World) => trnew_yes (w := W) (d := rD1) (a := none) (c := 0) 100 (by decide) (.inl rfl) (fun _ => rfl) rk1 (by decide) (am_small (by decide) (by decide)) (am_small (by decide) (by decide))
  refine (h1 _).mono ?_
  rintro e w1 ⟨b, rfl, hs⟩
  have K1 := Lib.hid hs
  clear hs h1
  go_wp2_with fail
  have h2 := fun (W : World) => trnew_no (w := W) (d := rD1) (a := none) (c := 0) (-1) (by decide) (.inl rfl) (fun _ => rfl) (.inr (by decide))
  refine (h2 _).mono ?_
  rintro e w2 ⟨rfl, hb⟩
  have K2 := Lib.hid (K1.out.up hb)
  clear hb h2
  go_wp2_with fail
  refine (K2.out.onward 5 49 (am_small (by decide) (by decide))).mono ?_
  rintro e w3 ⟨rfl, hs⟩
  rw [show onwS rD1 [] [⟨0, 0, 0, 100⟩] 5 49 = rL1 from rk2.2] at hs
  rw [show onwE rD1 [] [⟨0, 0, 0, 100⟩] 5 49 = 1 from rk2.1]
  have K3 := Lib.hid hs
  clear hs
  go_wp2_with fail
  refine (K3.out.onward 5 150 (am_small (by decide) (by decide))).mono ?_
  rintro e w4 ⟨rfl, hs⟩
  rw [rk3.2] at hs
  rw [rk3.1]
  have K4 := Lib.hid hs
  clear hs
  go_wp2_with fail
  refine (K4.out.earned 5).mono ?_
  rintro e w5 ⟨rfl, hb⟩
  rw [rk4.1]
  have K5 := Lib.hid (K4.out.up hb)
  clear hb
  go_wp2_with fail
  refine (K5.out.earned 8).mono ?_
  rintro e w6 ⟨rfl, hb⟩
  rw [rk4.2.1]
  have K6 := Lib.hid (K5.out.up hb)
  clear hb
  go_wp2_with fail
  refine (K6.out.earned 4).mono ?_
  rintro e w7 ⟨rfl, hb⟩
  rw [rk4.2.2]
  have K7 := Lib.hid (K6.out.up hb)
  clear hb
  go_wp2_with fail
  refine (K7.out.afresh 4 200 (am_small (by decide) (by decide))).mono ?_
  rintro e w8 ⟨rfl, hs⟩
  rw [rk5.2] at hs
  rw [rk5.1]
  have K8 := Lib.hid hs
  clear hs
  go_wp2_with fail
  refine (K8.out.afresh 6 200 (am_small (by decide) (by decide))).mono ?_
  rintro e w9 ⟨rfl, hs⟩
  rw [rk6.2] at hs
  rw [rk6.1]
  have K9 := Lib.hid hs
  clear hs
  go_wp2_with fail
  refine (K9.out.earned 6).mono ?_
  rintro e w10 ⟨rfl, hb⟩
  rw [rk7.1]
  have K10 := Lib.hid (K9.out.up hb)
  clear hb
  go_wp2_with fail
  refine (K10.out.allot).mono ?_
  rintro e w11 ⟨rfl, hb⟩
  rw [rk7.2.1]
  have K11 := Lib.hid (K10.out.up hb)
  clear hb
  go_wp2_with fail
  refine (K11.out.since).mono ?_
  rintro e w12 ⟨rfl, hb⟩
  rw [rk7.2.2]
  have K12 := Lib.hid (K11.out.up hb)
  clear hb
  go_wp2_with fail
  refine (K12.out.whole 10).mono ?_
  rintro e w13 ⟨rfl, hb⟩
  rw [rk8.1]
  have K13 := Lib.hid (K12.out.up hb)
  clear hb
  go_wp2_with fail
  refine (K13.out.whole 9).mono ?_
  rintro e w14 ⟨rfl, hb⟩
  rw [rk8.2]
  have hK := K13.out.up hb
  have K14 := Lib.hid hK
  obtain ⟨p, hc, ht, _⟩ := hK.ptr
  have HT := Lib.hid (ht 1 1 (am_small (by decide) (by decide)))
  clear hb ht hK
  go_wp2_with fail
  refine (HT.out).mono ?_
  rintro e w15 ⟨rfl, hs⟩
  rw [rk9.2] at hs
  rw [rk9.1]
  obtain ⟨p2, hc2, _, hd⟩ := hs.ptr
  have K15 := Lib.hid hs
  have HD := Lib.hid (hd (by decide))
  clear hs hd
  go_wp2_with fail
  refine (HD.out).mono ?_
  rintro e w16 ⟨a, c, rfl, _, hb⟩
  have K16 := Lib.hid (K15.out.up hb)
  clear hb
  rw [show rD1.val a c = .agg #[.slice a 0 c, .int .i64 0, .int .i64 1, .int .i64 0, .int .i64 1, .int .i64 10] from rfl]
  have hfld : ∀ W : World, (Instr.field 24 (.agg #[.slice a 0 c, .int .i64 0, .int .i64 1, .int .i64 0, .int .i64 1, .int .i64 10]) 5).run Try.prog W = .ok (.int .i64 10) W := fun _ => by kernel_rfl
  go_wp2_with fail
  go_ret
  exact ⟨rfl, K16.out.bel⟩
end Go.Proofs.Ytobdcogaphkogaa
