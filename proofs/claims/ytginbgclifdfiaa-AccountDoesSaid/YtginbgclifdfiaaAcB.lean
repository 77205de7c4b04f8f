/- wellFormed, has, hasEntry. -/
import Derived.Test.YtginbgclifdfiaaAcA
namespace Go.Proofs.Ytginbgclifdfiaa
open Go.RowKit

theorem all_take {ps : List Po} {k : Nat} {x : Po} (f : Po → Bool) (h : (ps.take k).all f = true) (hx : ps[k]? = some x) (hf : f x = true) : (ps.take (k + 1)).all f = true := by
  rw [List.take_add_one, hx]
  simp [h, hf]

set_option maxRecDepth 100000 in
set_option maxHeartbeats 2000000 in
theorem well_loop (w : World) (a : Option Addr) (n cap : Nat) (ps : List Po) (h : PsA w a ps) (hn : ps.length = n) (h1 : 1 ≤ n) (h2 : n ≤ 32) :
    Calls Try.prog 51 #[.slice a n cap] w fun e w' => e = .returned (.bool (ps.all fun x => knB x.a x.c)) ∧ Below w.heap.size w w' := by
  obtain ⟨b, o, rfl, hc⟩ : ∃ b o, a = some ⟨b, o, none⟩ ∧ ∀ i x, ps[i]? = some x → w.cell? ⟨b, o + i * 3, none⟩ = some (.int .i64 x.a) ∧ w.cell? ⟨b, o + i * 3 + 1, none⟩ = some (.int .i64 x.c) ∧ w.cell? ⟨b, o + i * 3 + 2, none⟩ = some (.int .i64 x.m) := by
    rcases h with rfl | h
    · simp at hn; omega
    · exact h
  have HC := Lib.hid hc
  have HN := Lib.hid hn
  clear h hc hn
  have z1 : ((n : Int) == 0) = false := by simp; omega
  have z2 : ¬ (32 < (n : Int)) := by omega
  go_enter Try.func51, Try.ntmps51
  go_wp2_with fail
  go_loopw [4, 15] (fun _ i wr => ∃ k : Nat, k ≤ n ∧ i = .int .i64 (k : Int) ∧ Below w.heap.size w wr ∧ (ps.take k).all (fun x => knB x.a x.c) = true) (fun _ i _ => n - (intOf i).toNat)
  case atStart => exact ⟨0, Nat.zero_le _, rfl, Below.refl _ _, by simp⟩
  case round =>
    obtain ⟨k, hk, rfl, hb, ha⟩ := hrel
    have HB := Lib.hid hb
    have HA := Lib.hid ha
    clear hb ha
    by_cases hlt : k < n
    · obtain ⟨x, hx⟩ : ∃ x, ps[k]? = some x := ⟨ps[k]'(by rw [HN.out]; exact hlt), List.getElem?_eq_getElem _⟩
      have HX := Lib.hid hx
      obtain ⟨c0, c1, c2⟩ := HC.out k x hx
      have d0 := kcell HB.out c0
      have d1 := kcell HB.out c1
      have d2 := kcell HB.out c2
      clear hx c0 c1 c2
      go_wp2_with fail
      refine (known_any x.a x.c _).mono ?_
      rintro e w2 ⟨rfl, hb2⟩
      have HB2 := Lib.hid (up2 HB.out ((boxed wr _).trans (hb2.mono (by simp))))
      clear hb2 d0 d1 d2
      by_cases q : knB x.a x.c = true
      · rw [q]
        go_wp2_with fail
        go_roundw
        case rel => exact ⟨k + 1, by omega, by go_num, HB2.out, all_take _ HA.out HX.out q⟩
        case measure => simp [intOf]; omega
      · have q' : knB x.a x.c = false := by cases r : knB x.a x.c <;> simp_all
        have r : ps.all (fun x => knB x.a x.c) = false := List.all_eq_false.2 ⟨x, List.mem_of_getElem? HX.out, by simp [q']⟩
        rw [q']
        go_wp2_with fail
        go_ret
        exact ⟨by rw [r]; rfl, HB2.out⟩
    · obtain rfl : k = n := by omega
      have r : ps.all (fun x => knB x.a x.c) = true := by have := HA.out; rwa [List.take_of_length_le (by rw [HN.out]; exact Nat.le_refl _)] at this
      go_wp2_with fail
      go_ret
      exact ⟨by rw [r]; rfl, HB.out⟩
set_option maxRecDepth 100000 in
set_option maxHeartbeats 1000000 in
theorem well_none (w : World) (a : Option Addr) (cap : Nat) :
    Calls Try.prog 51 #[.slice a 0 cap] w fun e w' => e = .returned (.bool false) ∧ Below w.heap.size w w' := by
  go_enter Try.func51, Try.ntmps51
  go_wp2_with fail
  go_ret
  exact ⟨rfl, Below.refl _ _⟩
set_option maxRecDepth 100000 in
set_option maxHeartbeats 1000000 in
theorem well_many (w : World) (a : Option Addr) (n cap : Nat) (h : 32 < n) :
    Calls Try.prog 51 #[.slice a n cap] w fun e w' => e = .returned (.bool false) ∧ Below w.heap.size w w' := by
  have z1 : ((n : Int) == 0) = false := by simp; omega
  have z2 : (32 < (n : Int)) := by omega
  go_enter Try.func51, Try.ntmps51
  go_wp2_with fail
  go_ret
  exact ⟨rfl, Below.refl _ _⟩
theorem well_any (w : World) (a : Option Addr) (n cap : Nat) (ps : List Po) (h : PsA w a ps) (hn : ps.length = n) :
    Calls Try.prog 51 #[.slice a n cap] w fun e w' => e = .returned (.bool (wellB ps)) ∧ Below w.heap.size w w' := by
  by_cases h1 : 1 ≤ n
  · by_cases h2 : n ≤ 32
    · rw [show wellB ps = ps.all fun x => knB x.a x.c by unfold wellB; rw [hn]; simp [h1, h2]]
      exact well_loop w a n cap ps h hn h1 h2
    · rw [show wellB ps = false by unfold wellB; rw [hn]; simp [h2]]
      exact well_many w a n cap (by omega)
  · obtain rfl : n = 0 := by omega
    rw [show wellB ps = false by unfold wellB; rw [hn]; simp]
    exact well_none w a cap
end Go.Proofs.Ytginbgclifdfiaa
