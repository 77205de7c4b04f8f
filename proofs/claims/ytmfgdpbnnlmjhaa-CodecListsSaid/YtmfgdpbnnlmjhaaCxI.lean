/- Are lists the same? A list of texts that is large. -/
import Derived.Test.YtmfgdpbnnlmjhaaCxH
namespace Go.Proofs.Ytmfgdpbnnlmjhaa
open Go.RowKit

set_option maxHeartbeats 1000000 in
theorem longs_other (a b : Option Addr) (n m c d : Nat) (w : World) (h : n ≠ m) :
    Calls Try.prog 16 #[.slice a n c, .slice b m d] w fun e w' => e = .returned (.bool false) ∧ w = w' := by
  have h1 : ((n : Int) != (m : Int)) = true := by simp; omega
  clear h
  go_enter Try.func16, Try.ntmps16
  go_wp2
  go_ret
  exact ⟨rfl, rfl⟩
set_option maxHeartbeats 2000000 in
theorem longs_some (b o c g p d : Nat) (xs ys : List Int) (w : World) (hX : Nums w b o xs) (hY : Nums w g p ys) (hl : xs.length = ys.length) (hN : xs.length ≤ 100000) :
    Calls Try.prog 16 #[.slice (some ⟨b, o, none⟩) xs.length c, .slice (some ⟨g, p, none⟩) ys.length d] w fun e w' => e = .returned (.bool (decide (xs = ys))) ∧ ∃ n, w' = w.drewN n := by
  obtain ⟨N, hNe⟩ : ∃ N, N = xs.length := ⟨_, rfl⟩
  have hM : N = ys.length := by rw [hNe, hl]
  rw [← hl, ← hNe]
  rw [← hNe] at hN
  have HX := Lib.hid (And.intro hX hY)
  have HL := Lib.hid (And.intro hNe hM)
  clear hX hY hNe hM hl
  go_enter Try.func16, Try.ntmps16
  go_wp2
  go_loopw [5] (fun i wr => ∃ k : Nat, k ≤ N ∧ i = .int .i64 (k : Int) ∧ Hid ((∃ n, wr = w.drewN n) ∧ xs.take k = ys.take k)) (fun i _ => N - (intOf i).toNat)
  case atStart => exact ⟨0, Nat.zero_le _, rfl, ⟨0, rfl⟩, rfl⟩
  case round =>
    obtain ⟨k, hk, rfl, HI⟩ := hrel
    by_cases hlt : k < N
    · have hkx : k < xs.length := by rw [← HL.out.1]; exact hlt
      have hky : k < ys.length := by rw [← HL.out.2]; exact hlt
      obtain ⟨x, hx⟩ : ∃ x, x = xs[k] := ⟨_, rfl⟩
      obtain ⟨y, hy⟩ : ∃ y, y = ys[k] := ⟨_, rfl⟩
      have hcx : wr.cell? ⟨b, o + k, none⟩ = some (.int .i64 x) := by obtain ⟨n, e⟩ := HI.out.1; rw [e, hx]; exact (HX.out.1.drewN n).at hkx
      have hcy : wr.cell? ⟨g, p + k, none⟩ = some (.int .i64 y) := by obtain ⟨n, e⟩ := HI.out.1; rw [e, hy]; exact (HX.out.2.drewN n).at hky
      by_cases q : x = y
      · have hq : (x == y) = true := by simpa using q
        have HT : Hid (xs.take (k + 1) = ys.take (k + 1)) := by
          show xs.take (k + 1) = ys.take (k + 1)
          rw [List.take_succ_eq_append_getElem hkx, List.take_succ_eq_append_getElem hky, ← hx, ← hy, HI.out.2, q]
        have HD := Lib.hid HI.out.1
        clear hx hy HI q
        go_wp2_with fail
        go_quiet (fail)
        go_wp2
        go_roundw
        case rel => exact ⟨k + 1, by omega, by go_num, by obtain ⟨n, e⟩ := HD.out; exact ⟨n + nq, by rw [e, drewN_two]⟩, HT.out⟩
        case measure => simp [intOf]; omega
      · have hq : (x == y) = false := by simpa using q
        have HF : Hid (decide (xs = ys) = false) := by
          show decide (xs = ys) = false
          rw [decide_eq_false_iff_not]
          intro e
          apply q
          rw [hx, hy]
          simp only [e]
        have HD := Lib.hid HI.out.1
        clear hx hy HI q
        go_wp2_with fail
        go_quiet (fail)
        go_wp2
        go_ret
        exact ⟨by rw [HF.out]; rfl, by obtain ⟨n, e⟩ := HD.out; exact ⟨n + nq, by rw [e, drewN_two]⟩⟩
    · have HF : Hid (decide (xs = ys) = true) := by
        show decide (xs = ys) = true
        rw [decide_eq_true_eq]
        have := HI.out.2
        rwa [List.take_of_length_le (by rw [← HL.out.1]; omega), List.take_of_length_le (by rw [← HL.out.2]; omega)] at this
      have HD := Lib.hid HI.out.1
      clear HI
      go_wp2
      go_ret
      exact ⟨by rw [HF.out]; rfl, HD.out⟩
set_option maxHeartbeats 1000000 in
theorem longs_nil (a b : Option Addr) (c d : Nat) (w : World) :
    Calls Try.prog 16 #[.slice a 0 c, .slice b 0 d] w fun e w' => e = .returned (.bool true) ∧ w = w' := by
  go_enter Try.func16, Try.ntmps16
  go_wp2
  go_loopw [5] (fun i wr => i = .int .i64 0 ∧ wr = w) (fun _ _ => 0)
  case atStart => exact ⟨rfl, rfl⟩
  case round =>
    obtain ⟨rfl, rfl⟩ := hrel
    go_wp2
    go_ret
    exact ⟨rfl, rfl⟩
set_option maxHeartbeats 1000000 in
theorem same_nil (a b : Option Addr) (c d : Nat) (w : World) :
    Calls Try.prog 22 #[.slice a 0 c, .slice b 0 d] w fun e w' => e = .returned (.bool true) ∧ w = w' := by
  go_enter Try.func22, Try.ntmps22
  go_wp2
  go_loopw [5] (fun i wr => i = .int .i64 0 ∧ wr = w) (fun _ _ => 0)
  case atStart => exact ⟨rfl, rfl⟩
  case round =>
    obtain ⟨rfl, rfl⟩ := hrel
    go_wp2
    go_ret
    exact ⟨rfl, rfl⟩
theorem drewN_0 (w : World) : w = w.drewN 0 := rfl
theorem longs_any (a b : Option Addr) (c d : Nat) (xs ys : List Int) (w : World) (hX : NumA w a xs) (hY : NumA w b ys) (hN : xs.length ≤ 100000) :
    Calls Try.prog 16 #[.slice a xs.length c, .slice b ys.length d] w fun e w' => e = .returned (.bool (decide (xs = ys))) ∧ ∃ n, w' = w.drewN n := by
  by_cases hl : xs.length = ys.length
  · rcases hX with rfl | ⟨p, o, rfl, hX⟩
    · have : ys = [] := List.eq_nil_of_length_eq_zero (by simpa using hl.symm)
      subst this
      exact (longs_nil a b c d w).mono fun e w' ⟨e1, e2⟩ => ⟨e1, 0, by rw [← e2]; rfl⟩
    · rcases hY with rfl | ⟨p', o', rfl, hY⟩
      · have : xs = [] := List.eq_nil_of_length_eq_zero (by simpa using hl)
        subst this
        exact (longs_nil _ b c d w).mono fun e w' ⟨e1, e2⟩ => ⟨e1, 0, by rw [← e2]; rfl⟩
      · exact longs_some p o c p' o' d xs ys w hX hY hl hN
  · refine (longs_other a b xs.length ys.length c d w hl).mono fun e w' ⟨e1, e2⟩ => ⟨?_, 0, by rw [← e2]; rfl⟩
    rw [e1, decide_eq_false (fun e => hl (by rw [e]))]
theorem sameA_any (a b : Option Addr) (c d : Nat) (xs ys : List ByteArray) (w : World) (hX : StrA w a xs) (hY : StrA w b ys) (hN : xs.length ≤ 100000) :
    Calls Try.prog 22 #[.slice a xs.length c, .slice b ys.length d] w fun e w' => e = .returned (.bool (decide (xs = ys))) ∧ ∃ n, w' = w.drewN n := by
  by_cases hl : xs.length = ys.length
  · rcases hX with rfl | ⟨p, o, rfl, hX⟩
    · have : ys = [] := List.eq_nil_of_length_eq_zero (by simpa using hl.symm)
      subst this
      exact (same_nil a b c d w).mono fun e w' ⟨e1, e2⟩ => ⟨e1, 0, by rw [← e2]; rfl⟩
    · rcases hY with rfl | ⟨p', o', rfl, hY⟩
      · have : xs = [] := List.eq_nil_of_length_eq_zero (by simpa using hl)
        subst this
        exact (same_nil _ b c d w).mono fun e w' ⟨e1, e2⟩ => ⟨e1, 0, by rw [← e2]; rfl⟩
      · exact sames_any p o c p' o' d xs ys w hX hY hl hN
  · refine (same_other a b xs.length ys.length c d w hl).mono fun e w' ⟨e1, e2⟩ => ⟨?_, 0, by rw [← e2]; rfl⟩
    rw [e1, decide_eq_false (fun e => hl (by rw [e]))]
/-- all but the large ones -/
def LargeIs (xs : List ByteArray) (w : World) : Ending → World → Prop := fun e w' => ∃ b : Bool, e = .returned (.bool b) ∧ (b = false → xs.length + tot (ls xs) ≤ 3000) ∧ w = w'
set_option maxHeartbeats 2000000 in
theorem large_any (a : Option Addr) (c : Nat) (xs : List ByteArray) (w : World) (hX : StrA w a xs) (hn : xs.length ≤ 140737488355328) (hsz : ∀ x ∈ xs, x.size ≤ 140737488355328) :
    Calls Try.prog 17 #[.slice a xs.length c] w (LargeIs xs w) := by
  obtain ⟨N, hN⟩ : ∃ N, N = xs.length := ⟨_, rfl⟩
  rw [← hN] at hn ⊢
  have HX := Lib.hid hX
  have HL := Lib.hid (And.intro hN hsz)
  clear hX hN hsz
  go_enter Try.func17, Try.ntmps17
  go_wp2
  go_loop [3, 4] (fun n i => ∃ k z : Nat, k ≤ N ∧ z ≤ 150000000000000 ∧ Hid (z = k + tot (ls (xs.take k))) ∧ i = .int .i64 (k : Int) ∧ n = .int .i64 (z : Int)) (fun _ i => N - (intOf i).toNat)
  case atStart => exact ⟨0, 0, Nat.zero_le _, by omega, by simp [Hid, ls, tot], rfl, rfl⟩
  case round =>
    obtain ⟨k, z, hk, hz, HZ, rfl, rfl⟩ := hrel
    by_cases hlt : k < N
    · by_cases hm : z ≤ 3000
      · have hkx : k < xs.length := by rw [← HL.out.1]; exact hlt
        obtain ⟨b, o, rfl, hcell⟩ := HX.out.at hkx
        have ht := tot_next xs k hkx
        have hxs : xs[k].size ≤ 140737488355328 := HL.out.2 _ (List.getElem_mem hkx)
        obtain ⟨x, hx⟩ : ∃ x, x = xs[k] := ⟨_, rfl⟩
        rw [← hx] at hcell ht hxs
        have HY : Hid (z + (x.size + 1) = k + 1 + tot (ls (xs.take (k + 1)))) := by
          have := HZ.out
          show _ = _
          omega
        clear ht hx HZ
        go_wp2
        go_round
        case rel => exact ⟨k + 1, z + (x.size + 1), by omega, by omega, HY, by go_num, by go_num⟩
        case measure => simp [intOf]; omega
      · go_wp2
        go_ret
        exact ⟨true, rfl, (fun h => by cases h), rfl⟩
    · have HA : Hid (z = xs.length + tot (ls xs)) := by
        have := HZ.out
        rw [List.take_of_length_le (by have := HL.out.1; omega)] at this
        show _ = _
        have := HL.out.1
        omega
      clear HZ
      go_wp2
      go_ret
      exact ⟨decide (3000 < (z : Int)), rfl, (fun h => by rw [← HA.out]; simp at h; omega), rfl⟩
end Go.Proofs.Ytmfgdpbnnlmjhaa
