/- awake. -/
import Derived.Test.YtealaedcjhofbaaBoG
namespace Go.Proofs.Ytealaedcjhofbaa
open Go.RowKit

set_option maxRecDepth 100000 in
set_option maxHeartbeats 16000000 in
theorem awake_any10 (w : World) : Calls Try.prog 6 #[] w fun e w' => e = .returned (.bool true) ∧ Below w.heap.size w w' := by
  go_enter Try.func6, Try.ntmps6
  go_wp2_with fail
  refine (bnew_yes (some ⟨w.heap.size, 0, none⟩) 1 1 aI _ rfl (ita_fresh w aI _ rfl) (fun e => by cases e) (fun x hx => by simp [aI] at hx; subst hx; exact am_small (by decide) (by decide)) ak0.1).mono ?_
  rintro e w1 ⟨p, r, rfl, hs⟩
  have K1 : Hid (Sb w w1 p r aS0) := ⟨hs.bk, up2 (boxed _ _) hs.bel, by have := hs.lo; simp at this; omega⟩
  clear hs
  go_wp2_with fail
  refine (bnew_no (some ⟨w1.heap.size, 0, none⟩) 1 1 [⟨0, 0, 0, 0⟩] _ rfl (ita_fresh w1 [⟨0, 0, 0, 0⟩] _ rfl) (fun e => by cases e) (fun x hx => by simp at hx; subst hx; exact am_small (by decide) (by decide)) ak0.2 (by decide)).mono ?_
  rintro e w2 ⟨rfl, hb⟩
  have K2 := Lib.hid (K1.out.up (up2 (boxed _ _) hb))
  clear hb
  go_wp2_with fail
  refine (K2.out.set 0 10 120 (am_small (by decide) (by decide))).mono ?_
  rintro e w3 ⟨rfl, hs⟩
  rw [ak1.2] at hs
  rw [ak1.1]
  have K3 := Lib.hid hs
  clear hs
  go_wp2_with fail
  refine (K3.out.set 0 10 130 (am_small (by decide) (by decide))).mono ?_
  rintro e w4 ⟨rfl, hs⟩
  rw [ak2.2] at hs
  rw [ak2.1]
  have K4 := Lib.hid hs
  clear hs
  go_wp2_with fail
  refine (price_any 0 9 K4.out.bk).mono ?_
  rintro e w5 ⟨rfl, hb⟩
  rw [ak3.1, ak3.2.1]
  have K5 := Lib.hid (K4.out.up hb)
  clear hb
  go_wp2_with fail
  refine (price_any 0 10 K5.out.bk).mono ?_
  rintro e w6 ⟨rfl, hb⟩
  rw [ak3.2.2.1, ak3.2.2.2.1]
  have K6 := Lib.hid (K5.out.up hb)
  clear hb
  go_wp2_with fail
  refine (price_any 1 10 K6.out.bk).mono ?_
  rintro e w7 ⟨rfl, hb⟩
  rw [ak3.2.2.2.2.1, ak3.2.2.2.2.2]
  have K7 := Lib.hid (K6.out.up hb)
  clear hb
  go_wp2_with fail
  have ha := fun (W : World) (hb : Below w7.heap.size w7 W) => alone_any aX 11 (K7.out.up hb).bk (am_small (by decide) (by decide))
  unfold Ln.val at ha
  refine (ha _ (boxed _ _)).mono ?_
  rintro e w8 ⟨rfl, hb⟩
  rw [ak4.1, ak4.2]
  have hx := Has.fresh w7 45 #[.int .i64 0, .int .i64 3, .int .i64 0, .int .i64 1, .int .i64 1]
  have K8 := Lib.hid (K7.out.up (up2 (boxed w7 (.cells #[.int .i64 0, .int .i64 3, .int .i64 0, .int .i64 1, .int .i64 1] 45)) hb))
  have HX := Lib.hid (hx.up hb)
  clear ha hb hx
  go_wp2_with fail
  refine (item_any 0 K8.out.bk).mono ?_
  rintro e w9 ⟨rfl, hb⟩
  rw [ak5.1, ak5.2]
  unfold Im.val
  have K9 := Lib.hid (K8.out.up hb)
  have HX9 := Lib.hid (HX.out.up hb)
  have x0 : w9.cell? ⟨w7.heap.size, 0, none⟩ = some (.int .i64 0) := HX9.out.cell 0
  have x1 : w9.cell? ⟨w7.heap.size, 1, none⟩ = some (.int .i64 3) := HX9.out.cell 1
  have x2 : w9.cell? ⟨w7.heap.size, 2, none⟩ = some (.int .i64 0) := HX9.out.cell 2
  have x3 : w9.cell? ⟨w7.heap.size, 3, none⟩ = some (.int .i64 1) := HX9.out.cell 3
  have x4 : w9.cell? ⟨w7.heap.size, 4, none⟩ = some (.int .i64 1) := HX9.out.cell 4
  have xl := HX9.out.lt
  clear hb
  go_wp2_with fail
  have hl := lna_fresh (w9.alloc (.cells #[.int .i64 0, .int .i64 0, .int .i64 0, .int .i64 100] 40)) aX
  rw [show (w9.alloc (.cells #[.int .i64 0, .int .i64 0, .int .i64 0, .int .i64 100] 40)).heap.size = w9.heap.size + 1 by simp] at hl
  have K10 := Lib.hid ((K9.out.up (boxed w9 (.cells #[.int .i64 0, .int .i64 0, .int .i64 0, .int .i64 100] 40))).up (boxed _ (.cells #[.int .i64 0, .int .i64 3, .int .i64 0, .int .i64 1, .int .i64 1] 45)))
  have HL := Lib.hid hl
  clear hl x0 x1 x2 x3 x4 xl
  refine (check_any (some ⟨w9.heap.size + 1, 0, none⟩) 1 [aX] K10.out.bk HL.out).mono ?_
  rintro e w10 ⟨rfl, hb⟩
  rw [ak6.1]
  have K11 := Lib.hid (K10.out.up hb)
  clear hb
  go_wp2_with fail
  refine (check_any none 0 [] K11.out.bk (.inl rfl)).mono ?_
  rintro e w11 ⟨rfl, hb⟩
  rw [ak6.2]
  have K12 := Lib.hid (K11.out.up hb)
  clear hb
  go_wp2_with fail
  go_ret
  exact ⟨rfl, K12.out.bel⟩
end Go.Proofs.Ytealaedcjhofbaa
