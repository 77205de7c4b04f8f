/- Balance, reach, balances. -/
import Derived.Test.YtginbgclifdfiaaAcL
namespace Go.Proofs.Ytginbgclifdfiaa
open Go.RowKit

section
variable {w w' : World} {p m : Nat} {S : Ld} {O : Nat → Prop}
theorem rng_zero {a c : Int} {n : Nat} {L : List En} (hz : ∀ q : Int, 0 ≤ q → q < n → rng a c q q L = 0) (k : Nat) (hk : k ≤ n) : rng a c 0 ((k : Int) - 1) L = 0 := by
  rw [← rng_sum]
  have : sumTo (fun i => rng a c i i L) k = sumTo (fun _ => 0) k := sumTo_congr k fun i hi => hz i (by omega) (by omega)
  rw [this]
  clear this hk
  induction k with
  | zero => rfl
  | succ k ih => simp only [sumTo, ih]; rfl
theorem tell_am {x : Int} (h : Am x) : tellV x = x ∧ tellE x = 0 := by
  unfold Am at h
  unfold tellV tellE
  exact ⟨if_pos h, if_pos h⟩
/-- the sum of a row's beginning -/
theorem sum_row9 {n : Nat} {f : Int → Int} {g : Nat} (hr : Has w g 2 (rowI n f)) (hf : ∀ q : Int, 0 ≤ q → q < n → Am (f q)) (hn : n ≤ 240) (k cap : Nat) (hk : k ≤ n) :
    Calls Try.prog 25 #[.slice (some ⟨g, 0, none⟩) k cap] w fun e w' => e = .returned (.tuple #[.int .i64 (tellV (sumTo (fun i => f i) k)), .int .i64 (tellE (sumTo (fun i => f i) k))]) ∧ Below w.heap.size w w' := by
  have := sum_some (fun i => if i < n then f i else 0) (fun i => by
    by_cases q : i < n
    · have := hf i (by omega) (by omega)
      unfold Am at this
      simpa [q] using this
    · simp [q]) g 0 k cap w (by omega) (fun i hi => by
      rw [Nat.zero_add, hr.cell, rowI_get f (by omega)]
      simp [show i < n by omega])
  rw [sumTo_congr (g := fun i => f i) k (fun i hi => by simp [show i < n by omega])] at this
  exact this

set_option maxRecDepth 100000 in
set_option maxHeartbeats 2000000 in
theorem balance_any (a c q : Int) (h : Lg w p S O) (ha : Am a) (hc : Am c) :
    Calls Try.prog 21 #[.pointer (some ⟨p, 0, none⟩), .int .i64 a, .int .i64 c, .int .i64 q] w fun e w' => e = .returned (.int .i64 (balV S a c q)) ∧ Below w.heap.size w w' := by
  have hF := h.fine
  obtain ⟨m, ve, vs, rows, h, _⟩ := h
  obtain ⟨v, hl, hv⟩ := tbl_look h.tbl ha hc
  have l1 := hl w rfl
  unfold plV at l1
  obtain ⟨c0, c1, c2, c3⟩ := h.lc
  have HH := Lib.hid (has_cells (w := w) (p := p) (S := S) q c0)
  by_cases hq : 0 ≤ q ∧ q < S.n
  · rw [show balV S a c q = rng a c 0 q S.L by unfold balV; rw [if_neg (by omega)]]
    obtain ⟨k, rfl⟩ : ∃ k : Nat, q = k := ⟨q.toNat, by omega⟩
    rcases hv with ⟨rfl, hz⟩ | ⟨g, rfl, _, hr⟩
    · have hz0 := rng_zero hz (k + 1) (by omega)
      rw [show (((k + 1 : Nat) : Int) - 1) = (k : Int) by omega] at hz0
      rw [hz0]
      clear h hl c1 c2 c0 hz hz0 hF
      have en := eq_nil
      go_enter Try.func21, Try.ntmps21
      go_wp2_with fail
      go_ret
      exact ⟨rfl, Below.refl _ _⟩
    · have hb : hasB S (k : Int) = true := by unfold hasB; simp; omega
      have hs := sum_row9 hr (fun q h0 h1 => hF.mov a c q h0 h1) hF.n1 (k + 1) S.n (by omega)
      rw [rng_sum, show (((k + 1 : Nat) : Int) - 1) = (k : Int) by omega, (tell_am (hF.bal a c k hq.1 hq.2)).1, (tell_am (hF.bal a c k hq.1 hq.2)).2] at hs
      have HS := Lib.hid hs
      have hn := hF.n1
      have e1 : IntKind.i64.wrap ((k : Int) + 1) = (k : Int) + 1 := IntWalk.i64_in _ (by omega)
      have i1 : (0 : Int) ≤ (k : Int) + 1 := by omega
      have i2 : (k : Int) + 1 ≤ (S.n : Int) := by omega
      have i3 : ((k : Int) + 1).toNat = k + 1 := by omega
      clear h hl c1 c2 c0 hr hq hs hF
      have en := eq_some
      go_enter Try.func21, Try.ntmps21
      go_wp2_with fail
      refine HH.out.mono ?_
      rintro e w2 ⟨rfl, rfl⟩
      rw [hb]
      go_wp2_with fail
      refine HS.out.mono ?_
      rintro e w3 ⟨rfl, hb3⟩
      go_wp2_with fail
      go_ret
      exact ⟨rfl, hb3⟩
  · rw [show balV S a c q = 0 by unfold balV; rw [if_pos (by omega)]]
    rcases hv with ⟨rfl, hz⟩ | ⟨g, rfl, _, hr⟩
    · clear h hl c1 c2 c0 hz
      have en := eq_nil
      go_enter Try.func21, Try.ntmps21
      go_wp2_with fail
      go_ret
      exact ⟨rfl, Below.refl _ _⟩
    · have hb : hasB S q = false := by unfold hasB; simp; omega
      clear h hl c1 c2 c0 hr hq
      have en := eq_some
      go_enter Try.func21, Try.ntmps21
      go_wp2_with fail
      refine HH.out.mono ?_
      rintro e w2 ⟨rfl, rfl⟩
      rw [hb]
      go_wp2_with fail
      go_ret
      exact ⟨rfl, Below.refl _ _⟩
end
end Go.Proofs.Ytginbgclifdfiaa
