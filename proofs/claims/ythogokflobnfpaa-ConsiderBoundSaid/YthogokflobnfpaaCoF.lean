/- ConsiderBound. -/
import Derived.Test.YthogokflobnfpaaCoE
namespace Go.Proofs.Ythogokflobnfpaa
open Go.RowKit

set_option maxRecDepth 100000 in
set_option maxHeartbeats 8000000 in
theorem bound_law (w : World) (f : Int) (a : Option Addr) (cap : Nat) (l : List Mb) (b c : Int) (hl : MbA w a l) (hf : Am f) (ha : ∀ x ∈ l, mbG x) :
    Calls Try.prog 4 #[.int .i64 f, .slice a l.length cap, .int .i64 b, .int .i64 c] w fun e w' => e = .returned (.bool true) ∧ Below w.heap.size w w' := by
  obtain ⟨n, hn⟩ : ∃ n, n = l.length := ⟨_, rfl⟩
  rw [← hn]
  by_cases q1 : 40 < n
  · have q1' : (40 : Int) < (n : Int) := by omega
    clear hl hf ha hn q1
    go_enter Try.func4, Try.ntmps4
    go_wp2_with fail
    refine (awake_any12 _).mono ?_
    rintro e w1 ⟨rfl, hb⟩
    have HB := Lib.hid hb
    clear hb
    go_wp2_with fail
    go_ret
    exact ⟨rfl, HB.out⟩
  · have q1' : ¬ (40 : Int) < (n : Int) := by omega
    by_cases q2 : c < b
    · have q2' : decide (c < b) = true := decide_eq_true q2
      clear hl hf ha hn q1 q2
      go_enter Try.func4, Try.ntmps4
      go_wp2_with fail
      refine (awake_any12 _).mono ?_
      rintro e w1 ⟨rfl, hb⟩
      have HB := Lib.hid hb
      clear hb
      go_wp2_with fail
      go_ret
      exact ⟨rfl, HB.out⟩
    · have q2' : decide (c < b) = false := decide_eq_false q2
      have hp := bound_plain (f := f) (b := b) (c := c) (by omega) l
      have H1 := Lib.hid (fun (W : World) (q : Below w.heap.size w W) => likely_any f b a n cap l W hn.symm (hl.up q) hf ha)
      have H2 := Lib.hid (fun (W : World) (q : Below w.heap.size w W) => likely_any f c a n cap l W hn.symm (hl.up q) hf ha)
      unfold CopR at H1 H2
      obtain ⟨E, hE⟩ : ∃ E, E = likE f l b := ⟨_, rfl⟩
      obtain ⟨V, hV⟩ : ∃ V, V = likV f l b := ⟨_, rfl⟩
      obtain ⟨F, hF⟩ : ∃ F, F = likE f l c := ⟨_, rfl⟩
      obtain ⟨U, hU⟩ : ∃ U, U = likV f l c := ⟨_, rfl⟩
      rw [← hE, ← hV, ← hF, ← hU] at hp
      rw [← hE, ← hV] at H1
      rw [← hF, ← hU] at H2
      clear hE hV hF hU hl hf ha hn q1 q2
      have key : (((E != 0) = true ∧ V = 0) ∨ ((E != 0) = true ∧ (V == 0) = false ∧ ((F != 0) = true ∧ U = 0)) ∨ ((E != 0) = false ∧ ((F != 0) = true ∧ U = 0)) ∨ ((E != 0) = true ∧ (V == 0) = false ∧ (F != 0) = true ∧ (U == 0) = false ∧ U ≤ V) ∨ ((E != 0) = true ∧ (V == 0) = false ∧ (F != 0) = false ∧ U ≤ V) ∨ ((E != 0) = false ∧ (F != 0) = true ∧ (U == 0) = false ∧ U ≤ V) ∨ ((E != 0) = false ∧ (F != 0) = false ∧ U ≤ V)) := by
        by_cases e1 : E = 0 <;> by_cases e2 : V = 0 <;> by_cases e3 : F = 0 <;> by_cases e4 : U = 0 <;> simp [e1, e2, e3, e4] <;> omega
      clear hp
      rcases key with ⟨k1, rfl⟩ | ⟨k1, k2, k3, rfl⟩ | ⟨k1, k3, rfl⟩ | ⟨k1, k2, k3, k4, k5⟩ | ⟨k1, k2, k3, k5⟩ | ⟨k1, k3, k4, k5⟩ | ⟨k1, k3, k5⟩
      all_goals
        go_enter Try.func4, Try.ntmps4
        go_wp2_with fail
        refine (awake_any12 _).mono ?_
        rintro e w1 ⟨rfl, hb⟩
        have HB1 := Lib.hid hb
        clear hb
        go_wp2_with fail
        refine (H1.out _ HB1.out).mono ?_
        rintro e w2 ⟨rfl, hb⟩
        have HB2 := Lib.hid (up2 HB1.out hb)
        clear hb
        go_wp2_with fail
        refine (H2.out _ HB2.out).mono ?_
        rintro e w3 ⟨rfl, hb⟩
        have HB3 := Lib.hid (up2 HB2.out hb)
        clear hb
        go_wp2_with fail
        go_ret
        exact ⟨rfl, HB3.out⟩
end Go.Proofs.Ythogokflobnfpaa
