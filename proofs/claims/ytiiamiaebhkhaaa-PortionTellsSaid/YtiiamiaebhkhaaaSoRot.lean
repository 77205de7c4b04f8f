/- Contracts: slices.swapRangeCmpFunc and slices.rotateCmpFunc. -/
import Derived.Test.YtiiamiaebhkhaaaSoCmp
namespace Go.Proofs.Ytiiamiaebhkhaaa
open Go.RowKit
variable {w W : World} {b n rb g : Nat} {K f : Nat → Int}

theorem wrap_nat {k : Nat} (h : k ≤ 4000000) : IntKind.i64.wrap (k : Int) = (k : Int) := by rw [IntKind.wrap_i64]; omega
theorem wrap_add {a k : Nat} (h : a + k ≤ 4000000) : IntKind.i64.wrap ((a : Int) + (k : Int)) = ((a + k : Nat) : Int) := by rw [IntKind.wrap_i64]; omega

set_option maxHeartbeats 1000000 in
theorem swr_any (HS : SW w b n rb g K f W) (cap a c k : Nat) (cmp : Value) (h1 : a + k ≤ c) (h2 : c + k ≤ n) :
    Calls Try.prog 57 #[.slice (some ⟨b, 0, none⟩) n cap, .int .i64 a, .int .i64 c, .int .i64 k, cmp] W fun e w' => e = .returned (.tuple #[]) ∧ SW w b n rb g K (swr f a c k) w' := by
  have H0 := Lib.hid HS
  clear HS
  go_enter Try.func57, Try.ntmps57
  go_wp2_with fail
  go_loopw [10] (fun i wr => ∃ t : Nat, t ≤ k ∧ i = .int .i64 t ∧ SW w b n rb g K (swr f a c t) wr) (fun i _ => k - (intOf i).toNat)
  case atStart => exact ⟨0, Nat.zero_le _, rfl, by rw [swr_start]; exact H0.out⟩
  case round =>
    obtain ⟨t, ht, rfl, hS⟩ := hrel
    have HS := Lib.hid hS
    have hsm := hS.small
    clear hS
    by_cases hlt : t < k
    · have c1 := HS.out.cell (t := a + t) (by omega)
      have c2 := HS.out.cell (t := c + t) (by omega)
      have e1 := HS.out.free (t := a + t) (by omega)
      have e2 := HS.out.free (t := c + t) (by omega)
      have w1 := wrap_add (a := a) (k := t) (by omega)
      have w2 := wrap_add (a := c) (k := t) (by omega)
      go_wp2_with fail
      go_region
      all_goals
        go_wp2_with fail
        go_roundw
        case rel => exact ⟨t + 1, by omega, by go_num, by rw [← swr_step f (by omega)]; exact HS.out.swp (by omega) (by omega) (by omega)⟩
        case measure => simp [intOf]; omega
    · have hke : t = k := by omega
      subst hke
      go_wp2_with fail
      go_end0
      exact ⟨rfl, HS.out⟩

set_option maxHeartbeats 1000000 in
theorem rot_any (HS : SW w b n rb g K f W) (cap a m c : Nat) (cmp : Value) (h1 : a < m) (h2 : m < c) (h3 : c ≤ n) :
    Calls Try.prog 56 #[.slice (some ⟨b, 0, none⟩) n cap, .int .i64 a, .int .i64 m, .int .i64 c, cmp] W fun e w' => e = .returned (.tuple #[]) ∧ SW w b n rb g K (rot f a m c) w' := by
  have H0 := Lib.hid HS
  have hsm := HS.small
  clear HS
  have i1 : IntKind.i64.wrap ((m : Int) - (a : Int)) = ((m - a : Nat) : Int) := by rw [IntKind.wrap_i64]; omega
  have i2 : IntKind.i64.wrap ((c : Int) - (m : Int)) = ((c - m : Nat) : Int) := by rw [IntKind.wrap_i64]; omega
  go_enter Try.func56, Try.ntmps56
  go_wp2_with fail
  go_loopw [10, 11] (fun vi vj wr => ∃ (i j : Nat) (h : Nat → Int), vi = .int .i64 i ∧ vj = .int .i64 j ∧ 0 < i ∧ i ≤ m ∧ 0 < j ∧ m + j ≤ n ∧ SW w b n rb g K h wr ∧ Hid (rot h (m - i) m (m + j) = rot f a m c)) (fun vi vj _ => (intOf vi).toNat + (intOf vj).toNat)
  case atStart => exact ⟨m - a, c - m, f, rfl, rfl, by omega, by omega, by omega, by omega, H0.out, by show rot _ _ _ _ = _; rw [show m - (m - a) = a by omega, show m + (c - m) = c by omega]⟩
  case round =>
    obtain ⟨i, j, h, rfl, rfl, i0, im, j0, jn, hS, HR⟩ := hrel
    have HS := Lib.hid hS
    clear hS i1 i2
    by_cases hne : i = j
    · subst hne
      have i3 : IntKind.i64.wrap ((m : Int) - (i : Int)) = ((m - i : Nat) : Int) := by rw [IntKind.wrap_i64]; omega
      go_wp2_with fail
      refine (swr_any HS.out cap (m - i) m i cmp (by omega) (by omega)).mono ?_
      rintro e w1 ⟨rfl, hS1⟩
      go_wp2_with fail
      go_end0
      exact ⟨rfl, by rw [← HR.out, ← rot_same h im]; exact hS1⟩
    · have hnz : ¬ (i : Int) = (j : Int) := by omega
      by_cases hlt : j < i
      · have i3 : IntKind.i64.wrap ((m : Int) - (i : Int)) = ((m - i : Nat) : Int) := by rw [IntKind.wrap_i64]; omega
        have i4 : IntKind.i64.wrap ((i : Int) - (j : Int)) = ((i - j : Nat) : Int) := by rw [IntKind.wrap_i64]; omega
        have hgt : (j : Int) < (i : Int) := by omega
        go_wp2_with fail
        refine (swr_any HS.out cap (m - i) m j cmp (by omega) (by omega)).mono ?_
        rintro e w1 ⟨rfl, hS1⟩
        have HS1 := Lib.hid hS1
        clear hS1
        go_wp2_with fail
        go_roundw
        case rel => exact ⟨i - j, j, _, rfl, rfl, by omega, by omega, by omega, by omega, HS1.out, by show rot _ _ _ _ = _; rw [rot_more h im hlt]; exact HR.out⟩
        case measure => simp [intOf]; omega
      · have i3 : IntKind.i64.wrap ((m : Int) - (i : Int)) = ((m - i : Nat) : Int) := by rw [IntKind.wrap_i64]; omega
        have i5 : IntKind.i64.wrap ((m : Int) + (j : Int)) = (m : Int) + (j : Int) := by rw [IntKind.wrap_i64]; omega
        have i6 : IntKind.i64.wrap ((m : Int) + (j : Int) - (i : Int)) = ((m + j - i : Nat) : Int) := by rw [IntKind.wrap_i64]; omega
        have i4 : IntKind.i64.wrap ((j : Int) - (i : Int)) = ((j - i : Nat) : Int) := by rw [IntKind.wrap_i64]; omega
        have hgt : ¬ (j : Int) < (i : Int) := by omega
        go_wp2_with fail
        refine (swr_any HS.out cap (m - i) (m + j - i) i cmp (by omega) (by omega)).mono ?_
        rintro e w1 ⟨rfl, hS1⟩
        have HS1 := Lib.hid hS1
        clear hS1
        go_wp2_with fail
        go_roundw
        case rel => exact ⟨i, j - i, _, rfl, rfl, by omega, by omega, by omega, by omega, HS1.out, by show rot _ _ _ _ = _; rw [rot_less h im (by omega)]; exact HR.out⟩
        case measure => simp [intOf]; omega
end Go.Proofs.Ytiiamiaebhkhaaa
