/- The reference's bits the other way round, its check, its Blocks. -/
import Derived.Test.YtjffcgimdffkoaaGreatDoorRcF
namespace Go.Proofs.YtjffcgimdffkoaaGreatDoor
open Go.RowKit

set_option maxRecDepth 100000 in
set_option maxHeartbeats 1000000 in
theorem tn_any (n m : Nat) (w : World) (hn : n < 4294967296) (hm : m ≤ 32) :
    Calls Tryz.prog 77 #[.int .u64 (n : Int), .int .i64 (m : Int)] w fun e w' => e = .returned (.int .u64 ((tn m n 0 : Nat) : Int)) ∧ w = w' := by
  go_enter Tryz.func77, Tryz.ntmps77
  go_wp2
  go_loop [0, 5, 6] (fun x y i => ∃ k z o : Nat, k ≤ m ∧ z < 4294967296 ∧ Hid (o < 2 ^ k ∧ tn (m - k) z o = tn m n 0) ∧ i = .int .i64 (k : Int) ∧ x = .int .u64 (z : Int) ∧ y = .int .u64 (o : Int)) (fun _ _ i => m - (intOf i).toNat)
  case atStart => exact ⟨0, n, 0, Nat.zero_le _, hn, ⟨by decide, by rw [Nat.sub_zero]⟩, rfl, rfl, rfl⟩
  case round =>
    obtain ⟨k, z, o, hk, hz, HO, rfl, rfl, rfl⟩ := hrel
    by_cases hlt : k < m
    · have ho : o < 4294967296 := Nat.lt_of_lt_of_le HO.out.1 (Nat.pow_le_pow_right (n := 2) (by omega) (show k ≤ 32 by omega))
      have HN : Hid (2 * o + z % 2 < 2 ^ (k + 1) ∧ tn (m - (k + 1)) (z / 2) (2 * o + z % 2) = tn m n 0) := by
        refine ⟨by have := HO.out.1; rw [Nat.pow_succ]; omega, ?_⟩
        rw [← HO.out.2, show m - k = (m - (k + 1)) + 1 by omega]
        rfl
      have e1 : (2 * (o : Int) + (z : Int) % 2) = ((2 * o + z % 2 : Nat) : Int) := by omega
      have e2 : ((z : Int) / 2) = ((z / 2 : Nat) : Int) := by omega
      obtain ⟨o2, ho2⟩ : ∃ o2, o2 = 2 * o + z % 2 := ⟨_, rfl⟩
      obtain ⟨z2, hz2⟩ : ∃ z2, z2 = z / 2 := ⟨_, rfl⟩
      rw [← ho2] at e1 HN
      rw [← hz2] at e2 HN
      have hz3 : z2 < 4294967296 := by omega
      clear ho2 hz2 HO
      go_wp2
      go_round
      case rel => exact ⟨k + 1, z2, o2, by omega, hz3, HN, by go_num, rfl, rfl⟩
      case measure => simp [intOf]; omega
    · have HR : Hid (o = tn m n 0) := by
        have := HO.out.2
        rw [show m - k = 0 by omega] at this
        exact this
      clear HO
      go_wp2
      go_ret
      exact ⟨by rw [← HR.out]; rfl, rfl⟩

def rstN : Nat → Nat → Nat
  | 0, r => r
  | j + 1, r => rst (rstN j r)
theorem rstN_lt {r : Nat} (h : r < 4294967296) (j : Nat) : rstN j r < 4294967296 := by
  induction j with
  | zero => exact h
  | succ j ih => exact rst_lt ih
theorem xor64 {a b : Nat} (ha : a < 4294967296) (hb : b < 4294967296) : bits .xor .u64 (a : Int) (b : Int) = ((a ^^^ b : Nat) : Int) := u64_xor_nat a b (by omega) (by omega)

set_option maxRecDepth 100000 in
set_option maxHeartbeats 4000000 in
theorem rchk_any (s : ByteArray) (w : World) (hs : s.size ≤ maxLen) :
    Calls Tryz.prog 56 #[.string s] w fun e w' => e = .returned (.int .u32 ((crc s.data.toList : Nat) : Int)) ∧ w = w' := by
  unfold maxLen at hs
  have HT8 : Hid (∀ c : Nat, c < 256 → Calls Tryz.prog 77 #[.int .u64 (c : Int), .int .i64 8] w fun e w' => e = .returned (.int .u64 ((tn8 c : Nat) : Int)) ∧ w = w') := fun c hc => tn_any c 8 w (by omega) (by omega)
  have HT32 : Hid (∀ c : Nat, c < 4294967296 → Calls Tryz.prog 77 #[.int .u64 (c : Int), .int .i64 32] w fun e w' => e = .returned (.int .u64 ((tn32 c : Nat) : Int)) ∧ w = w') := fun c hc => tn_any c 32 w hc (by omega)
  go_enter Tryz.func56, Tryz.ntmps56
  go_wp2
  go_loop [3, 4] (fun x i => ∃ k z : Nat, k ≤ s.size ∧ z < 4294967296 ∧ Hid (tn32 z = crcS 4294967295 (s.data.toList.take k)) ∧ i = .int .i64 (k : Int) ∧ x = .int .u64 (z : Int)) (fun _ i => s.size - (intOf i).toNat)
  case atStart => exact ⟨0, 4294967295, Nat.zero_le _, by omega, by show tn32 4294967295 = 4294967295; decide, rfl, rfl⟩
  case round =>
    obtain ⟨k, z, hk, hz, HZ, rfl, rfl⟩ := hrel
    by_cases hlt : k < s.size
    · have hts := take_snoc s k hlt
      obtain ⟨c, hc⟩ : ∃ c, c = (s[k]).toNat := ⟨_, rfl⟩
      have hc6 : c < 256 := by rw [hc]; exact (s[k]).toNat_lt
      have hc' : (((s[k]).toNat : Int)) = (c : Int) := by rw [hc]
      obtain ⟨t, ht⟩ : ∃ t, t = tn8 c := ⟨_, rfl⟩
      have ht6 : t < 256 := by rw [ht]; exact tn8_lt c
      have HC := Lib.hid (HT8.out c hc6)
      rw [← ht] at HC
      have e1 : bits .xor .u64 (z : Int) ((t : Int) * 16777216) = ((z ^^^ (t * 16777216) : Nat) : Int) := by
        rw [show ((t : Int) * 16777216) = ((t * 16777216 : Nat) : Int) by omega, xor64 hz (by omega)]
      have hr0 : z ^^^ (t * 16777216) < 4294967296 := Nat.xor_lt_two_pow (n := 32) hz (by omega)
      obtain ⟨r0, hr⟩ : ∃ r0, r0 = z ^^^ (t * 16777216) := ⟨_, rfl⟩
      rw [← hr] at e1 hr0
      have HR : Hid (tn32 (rstN 8 r0) = crcS 4294967295 (s.data.toList.take (k + 1))) := by
        show tn32 (rst8 r0) = _
        rw [hr, ht, rbyt_tn hz hc6, HZ.out, hts, crcS_snoc, hc]
      clear hts hc ht hr HZ
      go_wp2_with fail
      refine HC.out.mono ?_
      rintro e w' ⟨rfl, rfl⟩
      go_wp2
      go_loop [3, 5] (fun x i => ∃ j r : Nat, j ≤ 8 ∧ r < 4294967296 ∧ Hid (r = rstN j r0) ∧ i = .int .i64 (j : Int) ∧ x = .int .u64 (r : Int)) (fun _ i => 8 - (intOf i).toNat)
      case atStart => exact ⟨0, r0, by omega, hr0, rfl, rfl, rfl⟩
      case round =>
        obtain ⟨j, r, hj, hr6, HJ, rfl, rfl⟩ := hrel
        by_cases h8 : j < 8
        · have HN : Hid (rst r = rstN (j + 1) r0) := by rw [HJ.out]; rfl
          have hn6 := rst_lt hr6
          obtain ⟨r2, hr2⟩ : ∃ r2, r2 = rst r := ⟨_, rfl⟩
          rw [← hr2] at HN hn6
          by_cases hov : 4294967296 ≤ 2 * r
          · have e2 : bits .xor .u64 (2 * (r : Int) - 4294967296) 79764919 = (r2 : Int) := by
              rw [hr2]
              unfold rst
              rw [if_pos hov, show (2 * (r : Int) - 4294967296) = ((2 * r - 4294967296 : Nat) : Int) by omega]
              exact xor64 (b := 79764919) (by omega) (by omega)
            have hovI : 4294967296 ≤ 2 * (r : Int) := by omega
            clear hr2 HJ hov
            go_wp2
            go_round
            case rel => exact ⟨j + 1, r2, by omega, hn6, HN, by go_num, rfl⟩
            case measure => simp [intOf]; omega
          · have e2 : 2 * (r : Int) = (r2 : Int) := by
              rw [hr2]
              unfold rst
              rw [if_neg hov]
              omega
            have hovI : decide (4294967296 ≤ 2 * (r : Int)) = false := by rw [decide_eq_false_iff_not]; omega
            have E2 := Lib.hid e2
            clear hr2 HJ hov e2
            go_wp2
            go_round
            case rel => exact ⟨j + 1, r2, by omega, hn6, HN, by go_num, by rw [← E2.out]⟩
            case measure => simp [intOf]; omega
        · have HR2 : Hid (tn32 r = crcS 4294967295 (s.data.toList.take (k + 1))) := by
            have : j = 8 := by omega
            rw [HJ.out, this]
            exact HR.out
          clear HJ
          go_wp2
          go_round
          case rel => exact ⟨k + 1, r, by omega, hr6, HR2, by go_num, rfl⟩
          case measure => simp [intOf]; omega
    · have hk' : k = s.size := by omega
      have HC := Lib.hid (HT32.out z hz)
      obtain ⟨t, ht⟩ : ∃ t, t = tn32 z := ⟨_, rfl⟩
      have ht6 : t < 4294967296 := by rw [ht]; exact tn32_lt z
      rw [← ht] at HC
      have HR : Hid (((4294967295 : Int) - (t : Int)) = ((crc s.data.toList : Nat) : Int)) := by
        have hlt := crcS_lt s.data.toList (x := 4294967295) (by omega)
        have e : t = crcS 4294967295 s.data.toList := by rw [ht, HZ.out, hk', List.take_of_length_le (by rw [list_size]; omega)]
        show ((4294967295 : Int) - (t : Int)) = ((crc s.data.toList : Nat) : Int)
        unfold crc
        rw [e]
        omega
      clear hk' HZ ht
      go_wp2_with fail
      refine HC.out.mono ?_
      rintro e w' ⟨rfl, rfl⟩
      go_wp2
      go_ret
      exact ⟨by rw [← HR.out]; rfl, rfl⟩

set_option maxRecDepth 100000 in
set_option maxHeartbeats 1000000 in
theorem rblk_any (n : Int) (w : World) :
    Calls Tryz.prog 33 #[.int .i64 n] w fun e w' => e = .returned (.int .i64 (nbI n)) ∧ w = w' := by
  by_cases a : n < 0
  · rw [show nbI n = 0 by unfold nbI; rw [if_pos (by omega)]]
    go_enter Tryz.func33, Tryz.ntmps33
    go_wp2
    go_ret
    exact ⟨rfl, rfl⟩
  · by_cases b : 40000 < n
    · rw [show nbI n = 0 by unfold nbI; rw [if_pos (by omega)]]
      go_enter Tryz.func33, Tryz.ntmps33
      go_wp2
      go_ret
      exact ⟨rfl, rfl⟩
    · have a' : 0 ≤ n := by omega
      have b' : n ≤ 40000 := by omega
      have HE : Hid (nbI n = (n + 70) / 64) := by unfold nbI; rw [if_neg (by omega)]; rfl
      clear a b
      go_enter Tryz.func33, Tryz.ntmps33
      go_wp2
      go_loop [3] (fun i => ∃ k : Nat, 64 * (k : Int) < n + 71 ∧ i = .int .i64 (k : Int)) (fun i => 100000 - (intOf i).toNat)
      case atStart => exact ⟨0, by omega, rfl⟩
      case round =>
        obtain ⟨k, hk, rfl⟩ := hrel
        by_cases hlt : 64 * (k : Int) < n + 7
        · go_wp2
          go_round
          case rel => exact ⟨k + 1, by omega, by go_num⟩
          case measure => simp [intOf]; omega
        · have HR : Hid ((k : Int) = nbI n) := by rw [HE.out]; show (k : Int) = _; omega
          go_wp2
          go_ret
          exact ⟨by rw [← HR.out]; rfl, rfl⟩
end Go.Proofs.YtjffcgimdffkoaaGreatDoor
