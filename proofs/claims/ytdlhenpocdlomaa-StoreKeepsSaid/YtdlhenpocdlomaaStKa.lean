/- The core of StoreKeeps: what is let through at once. -/
import Derived.Test.YtdlhenpocdlomaaStK
namespace Go.Proofs.Ytdlhenpocdlomaa
open Go.RowKit

set_option maxRecDepth 100000 in
set_option maxHeartbeats 2000000 in
theorem kz_none (n : Int) (a : Option Addr) (len cap : Nat) (x : OpD) (w : World) (h : 40 < n ∨ 40 < len ∨ 100 < x.x.size) (hl : len ≤ 9223372036854775807) :
    Calls Try.prog 4 #[.int .i64 n, .slice a len cap, .agg x.cells] w fun e w' => e = .returned (.bool true) ∧ Below w.heap.size w w' := by
  unfold OpD.cells opv
  by_cases h1 : 40 < n
  · clear h
    go_enter Try.func4, Try.ntmps4
    go_wp2_with fail
    refine (st_awake _).mono ?_
    rintro e w1 ⟨rfl, hb⟩
    have HB := Lib.hid (up2 (boxed _ _) hb)
    clear hb
    go_wp2_with fail
    go_ret
    exact ⟨rfl, HB.out⟩
  · by_cases h2 : 40 < len
    · have h2' : 40 < (len : Int) := by omega
      have h1' : n ≤ 40 := by omega
      clear h h1
      go_enter Try.func4, Try.ntmps4
      go_wp2_with fail
      refine (st_awake _).mono ?_
      rintro e w1 ⟨rfl, hb⟩
      have HB := Lib.hid (up2 (boxed _ _) hb)
      clear hb
      go_wp2_with fail
      go_ret
      exact ⟨rfl, HB.out⟩
    · have h3 : 100 < (x.x.size : Int) := by rcases h with h | h | h <;> omega
      have h2' : (len : Int) ≤ 40 := by omega
      have h1' : n ≤ 40 := by omega
      clear h h1 h2
      go_enter Try.func4, Try.ntmps4
      go_wp2_with fail
      refine (st_awake _).mono ?_
      rintro e w1 ⟨rfl, hb⟩
      have c4 : w1.cell? ⟨w.heap.size, 4, none⟩ = some (.string x.x) := kcell hb (by simp [go_sem])
      have HB := Lib.hid (up2 (boxed _ _) hb)
      clear hb
      go_wp2_with fail
      go_ret
      exact ⟨rfl, HB.out⟩

set_option maxRecDepth 100000 in
set_option maxHeartbeats 2000000 in
theorem kz_no (n : Int) (a : Option Addr) (len cap : Nat) (x : OpD) (w : World) (h : n < 3) (h2 : len ≤ 40) (h3 : x.x.size ≤ 100) :
    Calls Try.prog 4 #[.int .i64 n, .slice a len cap, .agg x.cells] w fun e w' => e = .returned (.bool true) ∧ Below w.heap.size w w' := by
  unfold OpD.cells opv
  have h2' : (len : Int) ≤ 40 := by omega
  have h3' : (x.x.size : Int) ≤ 100 := by omega
  have h1' : n ≤ 40 := by omega
  go_enter Try.func4, Try.ntmps4
  go_wp2_with fail
  refine (st_awake _).mono ?_
  rintro e w1 ⟨rfl, hb⟩
  have c4 : w1.cell? ⟨w.heap.size, 4, none⟩ = some (.string x.x) := kcell hb (by simp [go_sem])
  have HB := Lib.hid (up2 (boxed _ _) hb)
  clear hb
  go_wp2_with fail
  refine (new_no w1 n (.inl h)).mono ?_
  rintro e w' ⟨rfl, rfl⟩
  go_wp2_with fail
  go_ret
  exact ⟨rfl, HB.out⟩
end Go.Proofs.Ytdlhenpocdlomaa
