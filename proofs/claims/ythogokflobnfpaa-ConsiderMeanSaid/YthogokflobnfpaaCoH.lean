/- ConsiderMean. -/
import Derived.Test.YthogokflobnfpaaCoE
namespace Go.Proofs.Ythogokflobnfpaa
open Go.RowKit

def loM (x : Mb) : Int := if x.am < 0 then x.am else 0
def hiM (x : Mb) : Int := if x.am < 0 then 0 else x.am
theorem mean_in {f : Int} {l : List Mb} : (meaE f l ≠ 0 ∧ meaV f l = 0) ∨ (meaE f l = 0 ∧ f + sumM loM l ≤ meaV f l ∧ meaV f l ≤ f + sumM hiM l) := by
  by_cases h : meaE f l = 0
  · refine .inr ⟨h, ?_⟩
    have hw : wrE f l 0 = 0 := by
      unfold meaE at h
      split at h
      · rename_i z; exact absurd h z
      · rename_i z; simpa using z
    have hall : l.all mbB = true := List.all_eq_true.2 fun x hx => by
      have := (wrE_zero hw).2.2.2.2 x hx
      simp [mbB, this]
    have := mean_plain (f := f) hall
    unfold meaV
    rw [if_pos h]; exact this
  · exact .inl ⟨h, by unfold meaV; rw [if_neg h]⟩
theorem ends_in {l : List Mb} (h : ∀ x ∈ l, -1099511627776 ≤ x.am ∧ x.am ≤ 1099511627776) : -1099511627776 * (l.length : Int) ≤ sumM loM l ∧ sumM loM l ≤ 0 ∧ 0 ≤ sumM hiM l ∧ sumM hiM l ≤ 1099511627776 * (l.length : Int) := by
  induction l with
  | nil => simp [sumM]
  | cons x l ih =>
    have h0 := h x (by simp)
    have := ih fun y hy => h y (by simp [hy])
    simp only [sumM, List.length_cons, loM, hiM]
    split <;> omega
theorem take_len32 {l : List Mb} (h : l.length ≤ 32) (k : Nat) : (l.take k).length ≤ 32 := by rw [List.length_take]; omega
set_option maxRecDepth 100000 in
set_option maxHeartbeats 8000000 in
theorem mean_law (w : World) (f : Int) (a : Option Addr) (cap : Nat) (l : List Mb) (hl : MbA w a l) (hf : Am f) (ha : ∀ x ∈ l, mbG x) :
    Calls Try.prog 6 #[.int .i64 f, .slice a l.length cap] w fun e w' => e = .returned (.bool true) ∧ Below w.heap.size w w' := by
  obtain ⟨n, hn⟩ : ∃ n, n = l.length := ⟨_, rfl⟩
  rw [← hn]
  by_cases q : 32 < n ∨ f < 0 ∨ 1152921504606846976 < f
  · have key : (32 : Int) < (n : Int) ∨ (¬ (32 : Int) < (n : Int) ∧ decide (f < 0) = true) ∨ (¬ (32 : Int) < (n : Int) ∧ decide (f < 0) = false ∧ decide (1152921504606846976 < f) = true) := by
      simp only [decide_eq_true_eq, decide_eq_false_iff_not]; omega
    clear q hf ha hl hn
    rcases key with k1 | ⟨k1, k2⟩ | ⟨k1, k2, k3⟩
    all_goals
      go_enter Try.func6, Try.ntmps6
      go_wp2_with fail
      refine (awake_any12 _).mono ?_
      rintro e w1 ⟨rfl, hb⟩
      have HB := Lib.hid hb
      clear hb
      go_wp2_with fail
      go_ret
      exact ⟨rfl, HB.out⟩
  · have k1 : ¬ (32 : Int) < (n : Int) := by omega
    have k2 : decide (f < 0) = false := decide_eq_false (by omega)
    have k3 : decide (1152921504606846976 < f) = false := decide_eq_false (by omega)
    have hf0 : 0 ≤ f ∧ f ≤ 1152921504606846976 := by omega
    have HF0 := Lib.hid hf0
    have H1 := Lib.hid (fun (W : World) (q : Below w.heap.size w W) => meanC_any f a n cap l W hn.symm (hl.up q) hf ha)
    have HIn := Lib.hid (mean_in (f := f) (l := l))
    unfold CopR at H1
    have HL := Lib.hid hl
    have HN := Lib.hid hn
    clear hl hf ha hn q hf0
    go_enter Try.func6, Try.ntmps6
    go_wp2_with fail
    refine (awake_any12 _).mono ?_
    rintro e w1 ⟨rfl, hb⟩
    have HB1 := Lib.hid hb
    clear hb
    go_wp2_with fail
    go_loopw [5, 6, 28] (fun lo hi i wr => ∃ k : Nat, k ≤ n ∧ i = .int .i64 (k : Int) ∧ lo = .int .i64 (f + sumM loM (l.take k)) ∧ hi = .int .i64 (f + sumM hiM (l.take k)) ∧ (∀ x ∈ l.take k, -1099511627776 ≤ x.am ∧ x.am ≤ 1099511627776) ∧ Below w.heap.size w wr) (fun _ _ i _ => n - (intOf i).toNat)
    case atStart => exact ⟨0, Nat.zero_le _, rfl, by simp [sumM], by simp [sumM], fun x hx => by simp at hx, HB1.out⟩
    case round =>
      obtain ⟨k, hk, rfl, rfl, rfl, hin, hb⟩ := hrel
      have HI := Lib.hid hin
      have HB := Lib.hid hb
      have hends := ends_in hin
      have hlt0 := take_len32 (l := l) (by rw [← HN.out]; omega) k
      have hF := HF0.out
      clear hin hb
      by_cases hlt : k < n
      · obtain ⟨x, hx⟩ : ∃ x, l[k]? = some x := ⟨l[k]'(by rw [← HN.out]; exact hlt), List.getElem?_eq_getElem _⟩
        obtain ⟨bb, o, hab, c0, c1⟩ := mb_at (HL.out.up HB.out) hx
        subst hab
        have hlo := sumM_take (g := loM) hx
        have hhi := sumM_take (g := hiM) hx
        have htk : ∀ y ∈ l.take (k + 1), y ∈ l.take k ∨ y = x := fun y hy => by
          rw [List.take_add_one, hx] at hy
          simpa using hy
        have HTk := Lib.hid htk
        have HLo := Lib.hid hlo
        have HHi := Lib.hid hhi
        obtain ⟨A, hA⟩ : ∃ A, A = x.am := ⟨_, rfl⟩
        have HA := Lib.hid hA
        rw [← hA] at c0
        obtain ⟨lo, hlo0⟩ : ∃ lo, lo = f + sumM loM (l.take k) := ⟨_, rfl⟩
        obtain ⟨hi, hhi0⟩ : ∃ hi, hi = f + sumM hiM (l.take k) := ⟨_, rfl⟩
        have HLo0 := Lib.hid hlo0
        have HHi0 := Lib.hid hhi0
        have hw1 : -1099511627776 ≤ A → A < 0 → wrap64 (lo + A) = lo + A := fun z z' => IntWalk.wrap64_in _ ⟨by omega, by omega⟩
        have hw2 : A ≤ 1099511627776 → 0 ≤ A → wrap64 (hi + A) = hi + A := fun z z' => IntWalk.wrap64_in _ ⟨by omega, by omega⟩
        rw [← hlo0, ← hhi0]
        have HBx : Hid (Below w.heap.size w (wr.alloc (.cells #[.int .i64 A, .int .i64 x.ch] 26))) := HB.out.alloc HB.out.size _
        have hgo : ∀ (_ : -1099511627776 ≤ A) (_ : A ≤ 1099511627776), ∀ y ∈ l.take (k + 1), -1099511627776 ≤ y.am ∧ y.am ≤ 1099511627776 := fun z z' y hy => by
          rcases HTk.out y hy with h | h
          · exact HI.out y h
          · rw [h, ← HA.out]; exact ⟨z, z'⟩
        have HGo := Lib.hid hgo
        clear hx hlo hhi htk hA hlo0 hhi0 hends hlt0 hF hgo
        by_cases z1 : A < -1099511627776
        · have y1 : decide (A < -1099511627776) = true := decide_eq_true z1
          clear hw1 hw2 z1
          go_wp2_with fail
          go_ret
          exact ⟨rfl, HBx.out⟩
        · have y1 : decide (A < -1099511627776) = false := decide_eq_false z1
          by_cases z2 : 1099511627776 < A
          · have y2 : decide (1099511627776 < A) = true := decide_eq_true z2
            clear hw1 hw2 z1 z2
            go_wp2_with fail
            go_ret
            exact ⟨rfl, HBx.out⟩
          · have y2 : decide (1099511627776 < A) = false := decide_eq_false z2
            have HG1 := Lib.hid (HGo.out (by omega) (by omega))
            by_cases z3 : A < 0
            · have y3 : decide (A < 0) = true := decide_eq_true z3
              have hw := hw1 (by omega) z3
              have hL : Hid (lo + A = f + sumM loM (l.take (k + 1))) := by
                show lo + A = _
                rw [HLo.out, HLo0.out]; unfold loM; rw [← HA.out, if_pos z3]; omega
              have hH : Hid (hi = f + sumM hiM (l.take (k + 1))) := by
                show hi = _
                rw [HHi.out, HHi0.out]; show _ = f + (_ + hiM x); unfold hiM; rw [← HA.out, if_pos z3]; omega
              clear hw1 hw2 z1 z2 z3
              go_wp2_with fail
              go_roundw
              case rel => exact ⟨k + 1, by omega, by go_num, by rw [← hL.out, hw], by rw [← hH.out], HG1.out, HBx.out⟩
              case measure => simp [intOf]; omega
            · have y3 : decide (A < 0) = false := decide_eq_false z3
              have hw := hw2 (by omega) (by omega)
              have hL : Hid (lo = f + sumM loM (l.take (k + 1))) := by
                show lo = _
                rw [HLo.out, HLo0.out]; show _ = f + (_ + loM x); unfold loM; rw [← HA.out, if_neg z3]; omega
              have hH : Hid (hi + A = f + sumM hiM (l.take (k + 1))) := by
                show hi + A = _
                rw [HHi.out, HHi0.out]; unfold hiM; rw [← HA.out, if_neg z3]; omega
              clear hw1 hw2 z1 z2 z3
              go_wp2_with fail
              go_roundw
              case rel => exact ⟨k + 1, by omega, by go_num, by rw [← hL.out], by rw [← hH.out, hw], HG1.out, HBx.out⟩
              case measure => simp [intOf]; omega
      · obtain rfl : k = n := by omega
        have htake : l.take k = l := by rw [HN.out]; exact List.take_length
        rw [htake]
        have hin0 := HIn.out
        obtain ⟨lo, hlo0⟩ : ∃ lo, lo = f + sumM loM l := ⟨_, rfl⟩
        obtain ⟨hi, hhi0⟩ : ∃ hi, hi = f + sumM hiM l := ⟨_, rfl⟩
        obtain ⟨E, hE⟩ : ∃ E, E = meaE f l := ⟨_, rfl⟩
        obtain ⟨V, hV⟩ : ∃ V, V = meaV f l := ⟨_, rfl⟩
        have h1 := H1.out wr HB.out
        rw [← hlo0, ← hhi0, ← hE, ← hV] at hin0
        rw [← hE, ← hV] at h1
        rw [← hlo0, ← hhi0]
        have HC := Lib.hid h1
        clear htake hlo0 hhi0 hE hV h1 hends hlt0 hF HIn
        have key : ((E != 0) = true ∧ V = 0) ∨ ((E != 0) = false ∧ lo ≤ V ∧ V ≤ hi) := by
          rcases hin0 with ⟨h, h'⟩ | ⟨h, h'⟩
          · exact .inl ⟨by simpa using h, h'⟩
          · exact .inr ⟨by simpa using h, h'⟩
        clear hin0
        rcases key with ⟨y1, rfl⟩ | ⟨y1, y2, y3⟩
        all_goals
          go_wp2_with fail
          refine HC.out.mono ?_
          rintro e w2 ⟨rfl, hb⟩
          have HB2 := Lib.hid (up2 HB.out hb)
          clear hb
          go_wp2_with fail
          go_ret
          exact ⟨rfl, HB2.out⟩
end Go.Proofs.Ythogokflobnfpaa
