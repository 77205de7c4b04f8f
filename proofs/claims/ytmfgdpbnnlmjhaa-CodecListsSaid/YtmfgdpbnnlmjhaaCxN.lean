/- The reference's Take. -/
import Derived.Test.YtmfgdpbnnlmjhaaCxM
import Derived.Deep.RegionHeld
namespace Go.Proofs.Ytmfgdpbnnlmjhaa
open Go.RowKit

theorem nat_step (M V P d : Nat) : ((V % M) + ((P % M) * d) % M) % M = (V + P * d) % M := by simp [Nat.add_mod, Nat.mul_mod]
theorem int_step (M V P d : Nat) : (((V % M : Nat) : Int) + (((P % M : Nat) : Int) * ((d : Nat) : Int)) % (M : Int)) % (M : Int) = ((V + P * d) % M : Nat) := by
  have h := congrArg (Nat.cast : Nat → Int) (nat_step M V P d)
  push_cast at h ⊢
  exact h
theorem add_step (l : List UInt8) (k : Nat) (c : UInt8) (hk : l.length = k) :
    IntKind.u64.wrap (((val l % 18446744073709551616 : Nat) : Int) + IntKind.u64.wrap (((128 ^ k % 18446744073709551616 : Nat) : Int) * ((c.toNat : Int) % 128))) = ((val (l ++ [c]) % 18446744073709551616 : Nat) : Int) := by
  rw [IntKind.wrap_u64, IntKind.wrap_u64, val_snoc, hk]
  exact int_step 18446744073709551616 (val l) (128 ^ k) (c.toNat % 128)
theorem each_step (k : Nat) : IntKind.u64.wrap (128 * ((128 ^ k % 18446744073709551616 : Nat) : Int)) = ((128 ^ (k + 1) % 18446744073709551616 : Nat) : Int) := by
  rw [IntKind.wrap_u64, Nat.pow_succ]
  omega
theorem list_cut (s : ByteArray) (k : Nat) : (s.extract 0 k).data.toList = s.data.toList.take k := by
  rw [Lib.extract_data]; simp
/-- the last of a number's bytes decides -/
theorem tk_way (s : ByteArray) (k : Nat) (hks : k < s.size) (hk9 : k ≤ 9) (hp : ∀ x ∈ s.data.toList.take k, 128 ≤ x.toNat) (hc : (s[k]'hks).toNat < 128) :
    (Tk s.data.toList none ∧ str (enc (val (s.data.toList.take (k + 1)) % 18446744073709551616)) ≠ s.extract 0 (k + 1)) ∨
    (Tk s.data.toList (some (unf (val (s.data.toList.take (k + 1)) % 18446744073709551616))) ∧ nl (unf (val (s.data.toList.take (k + 1)) % 18446744073709551616)) = k + 1 ∧ str (enc (val (s.data.toList.take (k + 1)) % 18446744073709551616)) = s.extract 0 (k + 1)) := by
  have hsn := take_snoc s k hks
  have hln : (s.data.toList.take k).length = k := by rw [List.length_take, list_size]; omega
  have hlt : val (s.data.toList.take (k + 1)) % 18446744073709551616 < 18446744073709551616 := Nat.mod_lt _ (by decide)
  by_cases a : 0 < k ∧ (s[k]'hks).toNat = 0
  · left
    refine ⟨tk_miss s.data.toList k (s[k]'hks) (data_at s k hks) hp hc (.inl a), fun e => ?_⟩
    have e2 := congrArg (fun x : ByteArray => x.data.toList) e
    simp only [str_list, list_cut] at e2
    rw [hsn] at e2
    rw [← hsn] at e2
    exact enc_last (e2.trans hsn) (by intro q; rw [q] at hln; simp at hln; omega) a.2
  · by_cases b : k = 9 ∧ 1 < (s[k]'hks).toNat
    · left
      have hv : 18446744073709551616 ≤ val (s.data.toList.take (k + 1)) := by rw [hsn]; exact val_no _ _ (by rw [hln, b.1]) hc b.2
      refine ⟨tk_miss s.data.toList k (s[k]'hks) (data_at s k hks) hp hc (.inr hv), fun e => ?_⟩
      have e2 := congrArg (fun x : ByteArray => x.data.toList) e
      simp only [str_list, list_cut] at e2
      have := congrArg val e2
      rw [val_enc] at this
      omega
    · right
      have hv : val (s.data.toList.take (k + 1)) < 18446744073709551616 := by rw [hsn]; exact val_ok _ _ _ hln hk9 hc b
      have ht := tk_hit s.data.toList k (s[k]'hks) (data_at s k hks) hp hc (fun q => fun q2 => a ⟨q, q2⟩) hv
      rw [Nat.mod_eq_of_lt hv]
      refine ⟨ht.1, ht.2, ?_⟩
      rw [← str_of (s.extract 0 (k + 1)), list_cut]
      obtain ⟨v, hv⟩ : ∃ v, v = val (s.data.toList.take (k + 1)) := ⟨_, rfl⟩
      rw [← hv] at ht ⊢
      obtain ⟨_, q, hq⟩ := ht.1
      have h1 : (enc (fold (unf v))).length = k + 1 := ht.2
      have h2 := congrArg (List.take (k + 1)) hq
      rw [fold_unf] at h1 h2
      rw [List.take_append_of_le_length (by omega), List.take_of_length_le (l := enc v) (by omega)] at h2
      rw [h2]
set_option maxRecDepth 100000 in
set_option maxHeartbeats 4000000 in
theorem ktake_ex (s : ByteArray) (w : World) :
    Calls Try.prog 13 #[.string s] w fun e w' => (∃ a, Tk s.data.toList a ∧ e = .returned (tkR a)) ∧ Below w.heap.size w w' := by
  go_enter Try.func13, Try.ntmps13
  go_wp2_with fail
  go_loopw [5, 6, 7] (fun u h i wr => ∃ k z y : Nat, k ≤ s.size ∧ k ≤ 10 ∧ z < 18446744073709551616 ∧ y < 18446744073709551616 ∧ i = .int .i64 (k : Int) ∧ u = .int .u64 (z : Int) ∧ h = .int .u64 (y : Int) ∧ Hid (z = val (s.data.toList.take k) % 18446744073709551616 ∧ y = 128 ^ k % 18446744073709551616 ∧ ∀ x ∈ s.data.toList.take k, 128 ≤ x.toNat) ∧ wr = w) (fun _ _ i _ => 10 - (intOf i).toNat)
  case atStart => exact ⟨0, 0, 1, Nat.zero_le _, by omega, by omega, by omega, rfl, rfl, rfl, ⟨by simp [val], by decide, by simp⟩, rfl⟩
  case round =>
    obtain ⟨k, z, y, hks', hk10, hz, hy, rfl, rfl, rfl, HI, rfl⟩ := hrel
    by_cases hlt : k < s.size
    · by_cases h10 : k < 10
      · have hks : k < s.size := hlt
        have hsn := take_snoc s k hks
        have hln : (s.data.toList.take k).length = k := by rw [List.length_take, list_size]; omega
        have e1 := add_step (s.data.toList.take k) k (s[k]'hks) hln
        rw [← HI.out.1, ← HI.out.2.1, ← hsn] at e1
        have e3 := each_step k
        rw [← HI.out.2.1] at e3
        obtain ⟨z2, hz2⟩ : ∃ z2, z2 = val (s.data.toList.take (k + 1)) % 18446744073709551616 := ⟨_, rfl⟩
        obtain ⟨y2, hy2⟩ : ∃ y2, y2 = 128 ^ (k + 1) % 18446744073709551616 := ⟨_, rfl⟩
        have hz26 : z2 < 18446744073709551616 := by rw [hz2]; exact Nat.mod_lt _ (by decide)
        have hy26 : y2 < 18446744073709551616 := by rw [hy2]; exact Nat.mod_lt _ (by decide)
        rw [← hz2] at e1
        rw [← hy2] at e3
        by_cases hc : 128 ≤ (s[k]'hks).toNat
        · have hci : (128 : Int) ≤ ((s[k]'hks).toNat : Int) := by omega
          have HN : Hid (z2 = val (s.data.toList.take (k + 1)) % 18446744073709551616 ∧ y2 = 128 ^ (k + 1) % 18446744073709551616 ∧ ∀ x ∈ s.data.toList.take (k + 1), 128 ≤ x.toNat) := by
            refine ⟨hz2, hy2, fun x hx => ?_⟩
            rw [hsn, List.mem_append] at hx
            rcases hx with hx | hx
            · exact HI.out.2.2 x hx
            · simp at hx; rw [hx]; exact hc
          clear hz2 hy2 hsn hln HI hc
          go_wp2
          go_roundw
          case rel => exact ⟨k + 1, z2, y2, by omega, by omega, hz26, hy26, by go_num, rfl, rfl, HN, trivial⟩
          case measure => simp [intOf]; omega
        · have hci : ¬ (128 : Int) ≤ ((s[k]'hks).toNat : Int) := by omega
          have hway := tk_way s k hks (by omega) HI.out.2.2 (by omega)
          rw [← hz2] at hway
          have HW := Lib.hid hway
          have HK := Lib.hid (fun W => knum_any (unf z2) W (unf_am hz26))
          rw [fold_unf] at HK
          have hun : unf z2 = (if z2 % 2 = 1 then -((z2 / 2 : Nat) : Int) - 1 else ((z2 / 2 : Nat) : Int)) := rfl
          obtain ⟨X, hX⟩ : ∃ X, X = str (enc z2) := ⟨_, rfl⟩
          obtain ⟨Y, hY⟩ : ∃ Y, Y = s.extract 0 (k + 1) := ⟨_, rfl⟩
          obtain ⟨N, hN⟩ : ∃ N, N = unf z2 := ⟨_, rfl⟩
          rw [← hN] at hun HK HW
          rw [← hX] at HK HW
          rw [← hY] at HW
          obtain ⟨h, hh⟩ : ∃ h, h = z2 / 2 := ⟨_, rfl⟩
          have hd : (z2 : Int) / 2 = (h : Int) := by omega
          have hk2 : h < 9223372036854775808 := by omega
          rw [← hh] at hun
          have hYe := hY.symm
          clear hz2 hy2 hsn hln HI hc hway hX hY hh
          go_upto_if 39 with fail
          go_cut [8] (fun n wx => n = .int .i64 N ∧ wx = wr)
          case first =>
            by_cases ho : z2 % 2 = 1
            · have h1 : (((z2 : Int) % 2) == 1) = true := by simp; omega
              rw [if_pos ho] at hun
              clear ho hN
              go_wp2_with fail
              go_meet
              exact ⟨by rw [hun], rfl⟩
            · have h1 : (((z2 : Int) % 2) == 1) = false := by simp; omega
              rw [if_neg ho] at hun
              clear ho hN
              go_wp2_with fail
              go_meet
              exact ⟨by rw [hun], rfl⟩
          case rest =>
            obtain ⟨rfl, rfl⟩ := hcut
            clear hun hN hd hk2
            obtain ⟨j, hj⟩ : ∃ j, j = k + 1 := ⟨_, rfl⟩
            have hwj : IntKind.i64.wrap ((k : Int) + 1) = (j : Int) := by rw [IntWalk.i64_in _ (by omega)]; omega
            have hjs : (j : Int) ≤ (s.size : Int) := by omega
            rw [← hj] at hYe HW
            clear hj
            rcases HW.out with ⟨ht, hne⟩ | ⟨ht, hl, he⟩
            · have HT := Lib.hid ht
              have hq : (X.toList == Y.toList) = false := by rw [strs_eq, decide_eq_false hne]
              have hq2 : (X.toList != Y.toList) = true := by rw [bne, hq]; rfl
              clear ht hne
              go_wp2_with fail
              go_region_held (fun _ => True) (trivial) (first | (go_at_call 15; (with_reducible refine (HK.out _).mono ?_); rintro e w2 ⟨rfl, hb2⟩))
              all_goals go_wp2
              all_goals go_ret3
              all_goals exact ⟨⟨none, HT.out, rfl⟩, ((Below.refl _ _).drew).trans hb2⟩
            · have HT := Lib.hid ht
              have HL := Lib.hid hl
              have hq : (X.toList == Y.toList) = true := by rw [strs_eq, he]; simp
              have hq2 : (X.toList != Y.toList) = false := by rw [bne, hq]; rfl
              clear ht hl he
              go_wp2_with fail
              go_region_held (fun _ => True) (trivial) (first | (go_at_call 15; (with_reducible refine (HK.out _).mono ?_); rintro e w2 ⟨rfl, hb2⟩))
              all_goals go_wp2
              all_goals go_ret3
              all_goals (
                have hR : tkR (some N) = .tuple #[.int .i64 N, .int .i64 (j : Int), .int .i64 0] := by
                  show Value.tuple #[_, .int .i64 (nl N : Nat), _] = _
                  rw [HL.out]
                exact ⟨⟨_, HT.out, by rw [hR]; rfl⟩, ((Below.refl _ _).drew).trans hb2⟩)
      · have hk : k = 10 := by omega
        have HT : Hid (Tk s.data.toList none) := tk_none s.data.toList k HI.out.2.2 (.inr (by omega))
        clear hk HI
        go_wp2
        go_ret3
        exact ⟨⟨none, HT.out, rfl⟩, Below.refl _ _⟩
    · have hk : k = s.size := by omega
      have HT : Hid (Tk s.data.toList none) := tk_none s.data.toList k HI.out.2.2 (.inl (by rw [list_size]; omega))
      clear hk HI
      go_wp2
      go_ret3
      exact ⟨⟨none, HT.out, rfl⟩, Below.refl _ _⟩
theorem ktake_any (s : ByteArray) (a : Option Int) (w : World) (h : Tk s.data.toList a) :
    Calls Try.prog 13 #[.string s] w fun e w' => e = .returned (tkR a) ∧ Below w.heap.size w w' :=
  (ktake_ex s w).mono fun _ _ ⟨⟨_, h1, e⟩, hw⟩ => ⟨by rw [e, h1.one h], hw⟩
theorem ktake_yes (r : List UInt8) (n : Int) (w : World) (h : Tk r (some n)) :
    Calls Try.prog 13 #[.string (str r)] w fun e w' => e = .returned (.tuple #[.int .i64 n, .int .i64 (nl n : Nat), .int .i64 0]) ∧ Below w.heap.size w w' := ktake_any (str r) (some n) w (by rw [str_list]; exact h)
theorem ktake_no (r : List UInt8) (w : World) (h : Tk r none) :
    Calls Try.prog 13 #[.string (str r)] w fun e w' => e = .returned (.tuple #[.int .i64 0, .int .i64 0, .int .i64 2]) ∧ Below w.heap.size w w' := ktake_any (str r) none w (by rw [str_list]; exact h)
end Go.Proofs.Ytmfgdpbnnlmjhaa
