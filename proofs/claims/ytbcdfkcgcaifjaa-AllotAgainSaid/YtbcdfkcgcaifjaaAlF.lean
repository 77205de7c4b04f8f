/- awake. -/
import Derived.Test.YtbcdfkcgcaifjaaBk
import Derived.Test.YtbcdfkcgcaifjaaAlD
import Derived.Test.YtbcdfkcgcaifjaaAlE
namespace Go.Proofs.Ytbcdfkcgcaifjaa
open Go.RowKit

def l1 (x : Int) (_ : Nat) : Int := x
def l2 (x y : Int) (t : Nat) : Int := if t = 0 then x else y
theorem l1_am {x : Int} (h : Am x) : Amounts (l1 x) := fun _ => h
theorem l2_am {x y : Int} (h : Am x) (k : Am y) : Amounts (l2 x y) := fun t => by unfold l2; split; exact h; exact k
theorem lit1 (w : World) (T : TypeId) (x : Int) : Arg (w.alloc (.cells #[.int .i64 x] T)) (some ⟨w.heap.size, 0, none⟩) 1 (l1 x) := fun _ => ⟨w.heap.size, 0, rfl, fun k hk => by
  rw [Nat.zero_add, (Has.fresh w T _).cell]
  obtain rfl : k = 0 := by omega
  rfl⟩
theorem lit2 (w : World) (T : TypeId) (x y : Int) : Arg (w.alloc (.cells #[.int .i64 x, .int .i64 y] T)) (some ⟨w.heap.size, 0, none⟩) 2 (l2 x y) := fun _ => ⟨w.heap.size, 0, rfl, fun k hk => by
  rw [Nat.zero_add, (Has.fresh w T _).cell]
  obtain rfl | rfl : k = 0 ∨ k = 1 := by omega
  · rfl
  · rfl⟩
/-- an answer that is a list -/
def OkPost (w : World) (n : Nat) (v : Nat → Int) (e : Ending) (w' : World) : Prop := ∃ p, e = .returned (.tuple #[.slice (some ⟨p, 0, none⟩) n n, .int .i64 0]) ∧ Below w.heap.size w w' ∧ w.heap.size ≤ p ∧ Ints w' p n v
theorem listed_ok {w w' : World} {err : Int} {n : Nat} {v : Nat → Int} {e : Ending} (h : Listed w err n v e w') (h0 : err = 0) : OkPost w n v e w' := by
  obtain ⟨hb, ⟨q, _⟩ | ⟨_, p, he, hp, hi⟩⟩ := h
  · exact absurd h0 q
  · exact ⟨p, he, hb, hp, hi⟩
/-- .. or an error -/
theorem listed_err {w w' : World} {err : Int} {n : Nat} {v : Nat → Int} {e : Ending} (h : Listed w err n v e w') (h0 : err ≠ 0) : e = .returned (.tuple #[.slice none 0 0, .int .i64 err]) ∧ Below w.heap.size w w' := by
  obtain ⟨hb, ⟨_, he⟩ | ⟨q, _⟩⟩ := h
  · exact ⟨he, hb⟩
  · exact absurd q h0
theorem am_lit : Am 60 ∧ Am 30 ∧ Am 10 ∧ Am 1 ∧ Am 2 ∧ Am 100 ∧ Am 50 ∧ Am (-1) ∧ Am 7 := by unfold Am; omega
theorem ak1 : allE 100 (l2 60 60) 2 = 0 ∧ outV 100 (l2 60 60) 2 0 = 50 ∧ outV 100 (l2 60 60) 2 1 = 50 := by decide +kernel
theorem ak2 : someE 100 (l2 60 60) 2 (l1 0) 1 = 0 ∧ someV 100 (l2 60 60) 2 (l1 0) 1 0 = 40 ∧ someV 100 (l2 60 60) 2 (l1 0) 1 1 = 60 := by decide +kernel
theorem ak3 : tellV (sumN (l2 60 60) 2 - 100) = 20 ∧ tellE (sumN (l2 60 60) 2 - 100) = 0 := by decide +kernel
theorem ak4 : againE 100 (l2 30 10) 2 (l2 1 2) 2 = 0 ∧ againV 100 (l2 30 10) 2 (l2 1 2) 2 0 = 50 ∧ againV 100 (l2 30 10) 2 (l2 1 2) 2 1 = 50 := by decide +kernel
theorem ak5 : someE 50 (l2 60 60) 2 (l1 0) 1 = 1 := by decide +kernel
theorem ak6 : allE (-1) (l1 1) 1 = 1 := by decide +kernel
theorem two_eq {v : Nat → Int} {x y : Int} (h0 : v 0 = x) (h1 : v 1 = y) : ∀ t, t < 2 → v t = l2 x y t := fun t ht => by
  obtain rfl | rfl : t = 0 ∨ t = 1 := by omega
  · exact h0
  · exact h1
theorem size1 (w : World) (o : Obj) : (w.alloc o).heap.size = w.heap.size + 1 := by simp

set_option maxRecDepth 100000 in
set_option maxHeartbeats 8000000 in
theorem awake_any13 (w : World) : Calls Try.prog 7 #[] w fun e w' => e = .returned (.bool true) ∧ Below w.heap.size w w' := by
  obtain ⟨m60, m30, m10, m1, m2, m100, m50, mm1, _⟩ := am_lit
  have H1 := Lib.hid (fun (W : World) => (all_any 100 (l2 60 60) (some ⟨W.heap.size, 0, none⟩) 2 2 _ (l2_am m60 m60) m100 (lit2 W 2 60 60)).mono fun e w' h => listed_ok h.1 ak1.1)
  have H2 := Lib.hid (fun (W : World) => (some_any 100 (l2 60 60) (l1 0) (some ⟨W.heap.size, 0, none⟩) (some ⟨W.heap.size + 1, 0, none⟩) 2 1 2 1 _ (l2_am m60 m60) m100 (by decide) (by decide) ((lit2 W 2 60 60).up13 (boxed _ (.cells #[.int .i64 0] 3))) (by rw [← size1 W (.cells #[.int .i64 60, .int .i64 60] 2)]; exact lit1 _ 3 0)).mono fun e w' h => listed_ok h.1 ak2.1)
  have H3 := Lib.hid (fun (W : World) => disc_any 100 (l2 60 60) (some ⟨W.heap.size, 0, none⟩) 2 2 _ (l2_am m60 m60) m100 (by decide) (lit2 W 2 60 60))
  have H4 := Lib.hid (fun (W : World) => (again_any 100 (l2 30 10) (l2 1 2) (some ⟨W.heap.size, 0, none⟩) (some ⟨W.heap.size + 1, 0, none⟩) 2 2 2 2 _ (l2_am m30 m10) (l2_am m1 m2) m100 (by decide) ((lit2 W 2 30 10).up13 (boxed _ (.cells #[.int .i64 1, .int .i64 2] 2))) (by rw [← size1 W (.cells #[.int .i64 30, .int .i64 10] 2)]; exact lit2 _ 2 1 2)).mono fun e w' h => listed_ok h.1 ak4.1)
  have H5 := Lib.hid (fun (W : World) => (some_any 50 (l2 60 60) (l1 0) (some ⟨W.heap.size, 0, none⟩) (some ⟨W.heap.size + 1, 0, none⟩) 2 1 2 1 _ (l2_am m60 m60) m50 (by decide) (by decide) ((lit2 W 2 60 60).up13 (boxed _ (.cells #[.int .i64 0] 3))) (by rw [← size1 W (.cells #[.int .i64 60, .int .i64 60] 2)]; exact lit1 _ 3 0)).mono fun e w' h => listed_err h.1 (by rw [ak5]; decide))
  have H6 := Lib.hid (fun (W : World) => (all_any (-1) (l1 1) (some ⟨W.heap.size, 0, none⟩) 1 1 _ (l1_am m1) mm1 (lit1 W 2 1)).mono fun e w' h => listed_err h.1 (by rw [ak6]; decide))
  rw [ak3.1, ak3.2] at H3
  rw [ak5] at H5
  rw [ak6] at H6
  clear m60 m30 m10 m1 m2 m100 m50 mm1
  go_enter Try.func7, Try.ntmps7
  go_wp2_with fail
  refine (H1.out w).mono ?_
  rintro e w1 ⟨p1, rfl, hb, _, hi⟩
  have HB1 := Lib.hid (up2 (boxed _ _) hb)
  have HP1 := Lib.hid (ints_arg0 hi)
  clear hb hi H1
  go_wp2_with fail
  refine (H2.out w1).mono ?_
  rintro e w2 ⟨p2, rfl, hb, _, hi⟩
  have HB2 := Lib.hid (up2 HB1.out (up2 (up2 (boxed _ _) (boxed _ _)) hb))
  have HP1 := Lib.hid (HP1.out.up13 (up2 (up2 (boxed _ _) (boxed _ _)) hb))
  have HP2 := Lib.hid (ints_arg0 hi)
  clear hb hi H2 HB1
  go_wp2_with fail
  refine (H3.out w2).mono ?_
  rintro e w3 ⟨rfl, hb⟩
  have HB3 := Lib.hid (up2 HB2.out (up2 (boxed _ _) hb))
  have HP1 := Lib.hid (HP1.out.up13 (up2 (boxed _ _) hb))
  have HP2 := Lib.hid (HP2.out.up13 (up2 (boxed _ _) hb))
  clear hb H3 HB2
  go_wp2_with fail
  refine (H4.out w3).mono ?_
  rintro e w4 ⟨p4, rfl, hb, _, hi⟩
  have HB4 := Lib.hid (up2 HB3.out (up2 (up2 (boxed _ _) (boxed _ _)) hb))
  have HP1 := Lib.hid (HP1.out.up13 (up2 (up2 (boxed _ _) (boxed _ _)) hb))
  have HP2 := Lib.hid (HP2.out.up13 (up2 (up2 (boxed _ _) (boxed _ _)) hb))
  have HP4 := Lib.hid (ints_arg0 hi)
  clear hb hi H4 HB3
  go_wp2_with fail
  refine (H5.out w4).mono ?_
  rintro e w5 ⟨rfl, hb⟩
  have HB5 := Lib.hid (up2 HB4.out (up2 (up2 (boxed _ _) (boxed _ _)) hb))
  have HP1 := Lib.hid (HP1.out.up13 (up2 (up2 (boxed _ _) (boxed _ _)) hb))
  have HP2 := Lib.hid (HP2.out.up13 (up2 (up2 (boxed _ _) (boxed _ _)) hb))
  have HP4 := Lib.hid (HP4.out.up13 (up2 (up2 (boxed _ _) (boxed _ _)) hb))
  clear hb H5 HB4
  go_wp2_with fail
  refine (H6.out w5).mono ?_
  rintro e w6 ⟨rfl, hb⟩
  have HB6 := Lib.hid (up2 HB5.out (up2 (boxed _ _) hb))
  have HP1 := Lib.hid (HP1.out.up13 (up2 (boxed _ _) hb))
  have HP2 := Lib.hid (HP2.out.up13 (up2 (boxed _ _) hb))
  have HP4 := Lib.hid (HP4.out.up13 (up2 (boxed _ _) hb))
  clear hb H6 HB5
  go_wp2_with fail
  refine (same_yes _ (l2 50 50) (some ⟨p1, 0, none⟩) (some ⟨w6.heap.size, 0, none⟩) 2 2 2 _ (by decide) (HP1.out.up13 (boxed _ _)) (lit2 w6 2 50 50) (two_eq ak1.2.1 ak1.2.2)).mono ?_
  rintro e w7 ⟨rfl, hb⟩
  have HB7 := Lib.hid (up2 HB6.out (up2 (boxed _ _) hb))
  have HP2 := Lib.hid (HP2.out.up13 (up2 (boxed _ _) hb))
  have HP4 := Lib.hid (HP4.out.up13 (up2 (boxed _ _) hb))
  clear hb HB6 HP1
  go_wp2_with fail
  refine (same_yes _ (l2 40 60) (some ⟨p2, 0, none⟩) (some ⟨w7.heap.size, 0, none⟩) 2 2 2 _ (by decide) (HP2.out.up13 (boxed _ _)) (lit2 w7 2 40 60) (two_eq ak2.2.1 ak2.2.2)).mono ?_
  rintro e w8 ⟨rfl, hb⟩
  have HB8 := Lib.hid (up2 HB7.out (up2 (boxed _ _) hb))
  have HP4 := Lib.hid (HP4.out.up13 (up2 (boxed _ _) hb))
  clear hb HB7 HP2
  go_wp2_with fail
  refine (same_yes _ (l2 50 50) (some ⟨p4, 0, none⟩) (some ⟨w8.heap.size, 0, none⟩) 2 2 2 _ (by decide) (HP4.out.up13 (boxed _ _)) (lit2 w8 2 50 50) (two_eq ak4.2.1 ak4.2.2)).mono ?_
  rintro e w9 ⟨rfl, hb⟩
  have HB9 := Lib.hid (up2 HB8.out (up2 (boxed _ _) hb))
  clear hb HB8 HP4
  go_wp2_with fail
  go_ret
  exact ⟨rfl, HB9.out⟩
end Go.Proofs.Ytbcdfkcgcaifjaa
