/- The reference's One, of an obligation and its copy. -/
import Derived.Test.YtlplbgandehkcaaDqA
namespace Go.Proofs.Ytlplbgandehkcaa
open Go.RowKit

set_option maxRecDepth 100000 in
set_option maxHeartbeats 4000000 in
theorem one_copy (d : Dt) (a a' : Option Addr) (c c' : Nat) (w : World) (hx : InA w a d.ls) (hy : InA w a' d.ls) (hn : d.ls.length ≤ 1000) :
    Calls Try.prog 15 #[d.val a c, d.val a' c', .bool true] w fun e w' => e = .returned (.bool true) ∧ Below w.heap.size w w' := by
  obtain ⟨xls, xal, xun, xme, xfi, xla⟩ := d
  unfold Dt.val
  simp only at hx hy hn ⊢
  obtain ⟨n, hxn⟩ : ∃ n, n = xls.length := ⟨_, rfl⟩
  rw [← hxn] at hn ⊢
  have HX := Lib.hid hx
  have HY := Lib.hid hy
  have HXn := Lib.hid hxn
  clear hx hy hxn
  go_enter Try.func15, Try.ntmps15
  go_wp2_with fail
  obtain ⟨W0, hW0⟩ : ∃ W0, W0 = (w.alloc (.cells #[.slice a n c, .int .i64 xal, .int .i64 xun, .int .i64 xme, .int .i64 xfi, .int .i64 xla] 24)).alloc (.cells #[.slice a' n c', .int .i64 xal, .int .i64 xun, .int .i64 xme, .int .i64 xfi, .int .i64 xla] 24) := ⟨_, rfl⟩
  have HB0 : Hid (Below w.heap.size w W0) := by rw [hW0]; exact up2 (boxed _ _) (boxed _ _)
  have hs : (w.alloc (.cells #[.slice a n c, .int .i64 xal, .int .i64 xun, .int .i64 xme, .int .i64 xfi, .int .i64 xla] 24)).heap.size = w.heap.size + 1 := by simp
  have HA0 : Hid (W0.cell? ⟨w.heap.size, 0, none⟩ = some (.slice a n c)) := Lib.hid (by rw [hW0]; simp [go_sem])
  have HC0 : Hid (W0.cell? ⟨w.heap.size + 1, 0, none⟩ = some (.slice a' n c')) := Lib.hid (by rw [hW0]; simp [go_sem])
  rw [← hW0]
  clear hW0 hs
  go_loopw [7] (fun v7 wr => ∃ i : Nat, i ≤ n ∧ v7 = .int .i64 (i : Int) ∧ Below W0.heap.size W0 wr) (fun v7 _ => n - (intOf v7).toNat)
  case atStart => exact ⟨0, Nat.zero_le _, rfl, Below.refl _ _⟩
  case round =>
    obtain ⟨i, hi, rfl, hb⟩ := hrel
    have HB := Lib.hid hb
    have a0 := kcell hb HA0.out
    have b0 := kcell hb HC0.out
    clear hb
    by_cases hlt : i < n
    · obtain ⟨j, hj⟩ : ∃ j, xls[i]? = some j := ⟨xls[i]'(by rw [← HXn.out]; exact hlt), List.getElem?_eq_getElem _⟩
      obtain ⟨b, o, ha, c0⟩ := in_at (HX.out.up (up2 HB0.out HB.out)) hj
      obtain ⟨b2, o2, ha2, c1⟩ := in_at (HY.out.up (up2 HB0.out HB.out)) hj
      subst ha; subst ha2
      have e1 : IntKind.i64.wrap ((i : Int) + 1) = (i : Int) + 1 := IntWalk.i64_in _ (by omega)
      have hi0 : (0 : Int) ≤ (i : Int) := by omega
      clear hj
      go_wp2_with fail
      go_quiet (fail)
      go_wp2_with fail
      exact ⟨⟨i + 1, by omega, by go_num, blw HB.out _⟩, by simp [intOf]; omega⟩
    · obtain rfl : i = n := by omega
      go_wp2_with fail
      go_ret
      exact ⟨rfl, up2 HB0.out HB.out⟩
end Go.Proofs.Ytlplbgandehkcaa
