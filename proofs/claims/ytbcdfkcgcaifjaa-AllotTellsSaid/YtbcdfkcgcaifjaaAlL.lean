/- The reference: Some, where what is asked may not be. -/
import Derived.Test.YtbcdfkcgcaifjaaAlJ
namespace Go.Proofs.Ytbcdfkcgcaifjaa
open Go.RowKit

def RSPost (w : World) (price : Int) (f : Nat → Int) (n : Nat) (p : Nat → Int) (m : Nat) (e : Ending) (w' : World) : Prop := RListed w (someE price f n p m) n (someV price f n p m) e w'
theorem someE_one {price : Int} {f p : Nat → Int} {n m : Nat} (h : price < 0 ∨ m = 0 ∨ (∃ t, t < n ∧ f t < 0) ∨ risesB p n m = false) : someE price f n p m = 1 := by
  unfold someE
  rw [if_pos]
  rcases h with h | h | ⟨t, t1, t2⟩ | h
  · exact .inl h
  · exact .inr (.inl (by omega))
  · have := minN_le f t1
    exact .inr (.inr (by omega))
  · exact .inr (.inl (by rw [h]; simp))

set_option maxRecDepth 100000 in
set_option maxHeartbeats 2000000 in
theorem rsome_no1 (price : Int) (f p : Nat → Int) (a c : Option Addr) (n m capa capc : Nat) (w : World) (h : price < 0 ∨ m = 0) :
    Calls Try.prog 11 #[.int .i64 price, .slice a n capa, .slice c m capc] w (RSPost w price f n p m) := by
  have HE : Hid (someE price f n p m = 1) := someE_one (by rcases h with h | h; exact .inl h; exact .inr (.inl h))
  by_cases h1 : price < 0
  · clear h
    go_enter Try.func11, Try.ntmps11
    go_wp2_with fail
    go_ret2
    exact rlisted_err HE.out (by decide) (Below.refl _ _) rfl
  · obtain rfl : m = 0 := by rcases h with h | h; exact absurd h h1; exact h
    clear h
    go_enter Try.func11, Try.ntmps11
    go_wp2_with fail
    go_ret2
    exact rlisted_err HE.out (by decide) (Below.refl _ _) rfl

set_option maxRecDepth 100000 in
set_option maxHeartbeats 2000000 in
theorem rsome_no2 (price : Int) (f p : Nat → Int) (a c : Option Addr) (n m capa capc : Nat) (w : World) (hn : n ≤ 1000) (h1 : ¬ price < 0) (h2 : 0 < m) (h : ∃ t, t < n ∧ f t < 0) (hA : Arg w a n f) :
    Calls Try.prog 11 #[.int .i64 price, .slice a n capa, .slice c m capc] w (RSPost w price f n p m) := by
  have HE : Hid (someE price f n p m = 1) := someE_one (.inr (.inr (.inl h)))
  have z1 : decide (price < 0) = false := decide_eq_false h1
  have z2 : ((m : Int) == 0) = false := by simp; omega
  have HH := Lib.hid h
  have HA := Lib.hid hA
  clear h hA h1
  go_enter Try.func11, Try.ntmps11
  go_wp2_with fail
  go_loop [8] (fun vi => ∃ k : Nat, k ≤ n ∧ vi = .int .i64 k ∧ Hid (∀ t, t < k → ¬ f t < 0)) (fun vi => n - (intOf vi).toNat)
  case atStart => exact ⟨0, Nat.zero_le _, rfl, fun t ht => by omega⟩
  case round =>
    obtain ⟨k, hk, rfl, HP⟩ := hrel
    by_cases hlt : k < n
    · obtain ⟨b, off, rfl, hr⟩ := HA.out (by omega)
      have c1 := hr k hlt
      clear hr
      have HP2 : Hid (¬ f k < 0 → ∀ t, t < k + 1 → ¬ f t < 0) := fun q t ht => by
        by_cases e : t = k
        · subst e; exact q
        · exact HP.out t (by omega)
      obtain ⟨x, hx⟩ : ∃ x, x = f k := ⟨_, rfl⟩
      rw [← hx] at c1 HP2
      clear hx
      by_cases q : x < 0
      · go_wp2_with fail
        go_ret2
        exact rlisted_err HE.out (by decide) (Below.refl _ _) rfl
      · have HN := Lib.hid (HP2.out q)
        go_wp2_with fail
        go_round
        case rel => exact ⟨k + 1, by omega, by go_num, HN.out⟩
        case measure => simp [intOf]; omega
    · exfalso
      obtain ⟨t, t1, t2⟩ := HH.out
      exact HP.out t (by omega) t2

/-- what is asked of a place -/
def plB (p : Nat → Int) (n : Nat) (j : Nat) : Prop := 0 ≤ p j ∧ p j < n ∧ befV p j < p j
theorem rises_iff {p : Nat → Int} {n j : Nat} (h : risesB p n j = true) : risesB p n (j + 1) = true ↔ plB p n j := by
  have ht := (rises_top h).1
  unfold plB
  simp only [risesB, h, Bool.true_and, Bool.not_eq_true', Bool.or_eq_false_iff, decide_eq_false_iff_not]
  omega
theorem pl_prev {p : Nat → Int} {n i : Nat} (hx : ¬ p (i + 1) < 0) (hy : ¬ (n : Int) ≤ p (i + 1)) : plB p n (i + 1) ↔ ¬ p (i + 1) ≤ p i := by
  unfold plB; show _ ∧ _ ∧ p i < p (i + 1) ↔ _; omega
theorem pl_zero {p : Nat → Int} {n : Nat} (hx : ¬ p 0 < 0) (hy : ¬ (n : Int) ≤ p 0) : plB p n 0 := by
  unfold plB; refine ⟨by omega, by omega, ?_⟩; show -1 < p 0; omega

set_option maxRecDepth 100000 in
set_option maxHeartbeats 4000000 in
theorem rsome_no3 (price : Int) (f p : Nat → Int) (a c : Option Addr) (n m capa capc : Nat) (w : World) (hn : n ≤ 1000) (hm : m ≤ 1000) (h1 : ¬ price < 0) (h2 : 0 < m) (hp : ∀ t, t < n → 0 ≤ f t) (h : risesB p n m = false) (hA : Arg w a n f) (hC : Arg w c m p) :
    Calls Try.prog 11 #[.int .i64 price, .slice a n capa, .slice c m capc] w (RSPost w price f n p m) := by
  have HE : Hid (someE price f n p m = 1) := someE_one (.inr (.inr (.inr h)))
  have z1 : decide (price < 0) = false := decide_eq_false h1
  have z2 : ((m : Int) == 0) = false := by simp; omega
  have HH := Lib.hid h
  have HA := Lib.hid (And.intro hA hC)
  have HPs := Lib.hid hp
  clear h hA hC h1 hp
  go_enter Try.func11, Try.ntmps11
  go_wp2_with fail
  go_loop [8] (fun vi => ∃ k : Nat, k ≤ n ∧ vi = .int .i64 k) (fun vi => n - (intOf vi).toNat)
  case atStart => exact ⟨0, Nat.zero_le _, rfl⟩
  case round =>
    obtain ⟨k, hk, rfl⟩ := hrel
    by_cases hlt : k < n
    · obtain ⟨b, off, rfl, hr⟩ := HA.out.1 (by omega)
      have c1 := hr k hlt
      have c2 := HPs.out k hlt
      obtain ⟨x, hx⟩ : ∃ x, x = f k := ⟨_, rfl⟩
      rw [← hx] at c1 c2
      have c3 : ¬ x < 0 := by omega
      clear hr hx c2
      go_wp2_with fail
      go_round
      case rel => exact ⟨k + 1, by omega, by go_num⟩
      case measure => simp [intOf]; omega
    · obtain rfl : k = n := by omega
      clear hk hlt
      go_wp2_with fail
      go_loopw [9] (fun vi wr => ∃ j : Nat, j ≤ m ∧ vi = .int .i64 j ∧ Below w.heap.size w wr ∧ Hid (risesB p k j = true)) (fun vi _ => m - (intOf vi).toNat)
      case atStart => exact ⟨0, Nat.zero_le _, rfl, Below.refl _ _, rfl⟩
      case round =>
        obtain ⟨j, hj, rfl, hB, HR⟩ := hrel
        have HB := Lib.hid hB
        clear hB
        by_cases hlt : j < m
        · obtain ⟨b, off, rfl, hr⟩ := HA.out.2 (by omega)
          have c1 := kcell HB.out (hr j hlt)
          have HN : Hid (plB p k j → risesB p k (j + 1) = true) := (rises_iff HR.out).2
          have HNo : Hid (¬ plB p k j → risesB p k m = false) := fun q => rises_no (k := j + 1) (by
            cases r : risesB p k (j + 1) with
            | false => rfl
            | true => exact absurd ((rises_iff HR.out).1 r) q) hlt
          have hj0 : (0 : Int) ≤ (j : Int) := by omega
          have hjm : (j : Int) < (m : Int) := by omega
          have pz : Hid (plB p k 0 ↔ (¬ p 0 < 0 ∧ ¬ (k : Int) ≤ p 0)) := ⟨fun q => ⟨by have := q.1; omega, by have := q.2.1; omega⟩, fun q => pl_zero q.1 q.2⟩
          have pn : Hid (plB p k j → ¬ p j < 0 ∧ ¬ (k : Int) ≤ p j) := fun q => ⟨by have := q.1; omega, by have := q.2.1; omega⟩
          by_cases q1 : p j < 0
          · have z3 : decide (p j < 0) = true := decide_eq_true q1
            clear q1 hr
            go_wp2_with fail
            go_quiet (fail)
            go_wp2_with fail
            go_ret2
            exact rlisted_err HE.out (by decide) (blw HB.out _) rfl
          · have z3 : decide (p j < 0) = false := decide_eq_false q1
            by_cases q2 : (k : Int) ≤ p j
            · have z4 : decide ((k : Int) ≤ p j) = true := decide_eq_true q2
              clear q1 q2 hr
              go_wp2_with fail
              go_quiet (fail)
              go_wp2_with fail
              go_ret2
              exact rlisted_err HE.out (by decide) (blw HB.out _) rfl
            · have z4 : decide ((k : Int) ≤ p j) = false := decide_eq_false q2
              obtain rfl | ⟨i, rfl⟩ : j = 0 ∨ ∃ i, j = i + 1 := by cases j with
                | zero => exact .inl rfl
                | succ i => exact .inr ⟨i, rfl⟩
              · have HX := Lib.hid (HN.out (pl_zero q1 q2))
                rw [Nat.add_zero] at c1
                clear q1 q2 hr
                go_wp2_with fail
                go_quiet (fail)
                go_wp2_with fail
                go_roundw
                case rel => exact ⟨1, by omega, by go_num, blw HB.out _, HX.out⟩
                case measure => simp [intOf]; omega
              · have d1 := kcell HB.out (hr i (by omega))
                have e0 : decide ((0 : Int) < ((i + 1 : Nat) : Int)) = true := decide_eq_true (by omega)
                have hwi : IntKind.i64.wrap (((i + 1 : Nat) : Int) - 1) = (i : Int) := by rw [IntKind.wrap_i64]; omega
                have hpp := pl_prev q1 q2
                have hi0 : (0 : Int) ≤ (i : Int) := by omega
                have him : (i : Int) < (m : Int) := by omega
                by_cases q3 : p (i + 1) ≤ p i
                · have z5 : decide (p (i + 1) ≤ p i) = true := decide_eq_true q3
                  clear q1 q2 hr hpp q3
                  go_wp2_with fail
                  go_quiet (fail)
                  go_wp2_with fail
                  go_ret2
                  exact rlisted_err HE.out (by decide) (blw HB.out _) rfl
                · have z5 : decide (p (i + 1) ≤ p i) = false := decide_eq_false q3
                  have HX := Lib.hid (HN.out (hpp.2 q3))
                  clear q1 q2 hr hpp q3
                  go_wp2_with fail
                  go_quiet (fail)
                  go_wp2_with fail
                  go_roundw
                  case rel => exact ⟨i + 2, by omega, by go_num, blw HB.out _, HX.out⟩
                  case measure => simp [intOf]; omega
        · exfalso
          have : j = m := by omega
          subst this
          have := HR.out
          rw [HH.out] at this; cases this
end Go.Proofs.Ytbcdfkcgcaifjaa
