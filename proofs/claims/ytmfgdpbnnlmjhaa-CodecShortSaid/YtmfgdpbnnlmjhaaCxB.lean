/- The program's Take. -/
import Derived.Test.YtmfgdpbnnlmjhaaCxA
namespace Go.Proofs.Ytmfgdpbnnlmjhaa
open Go.RowKit

/-- what Take answers -/
def tkR (a : Option Int) : Value := match a with
  | some n => .tuple #[.int .i64 n, .int .i64 (nl n : Nat), .int .i64 0]
  | none => .tuple #[.int .i64 0, .int .i64 0, .int .i64 2]
theorem or_step (l : List UInt8) (k : Nat) (c : UInt8) (hk : l.length = k) :
    bits .or .u64 (((val l % 18446744073709551616 : Nat)) : Int) (IntKind.u64.wrap ((c.toNat : Int) % 128 * 2 ^ (k * 7))) = ((val (l ++ [c]) % 18446744073709551616 : Nat) : Int) := by
  have hx : IntKind.u64.wrap ((c.toNat : Int) % 128 * 2 ^ (k * 7)) = ((c.toNat % 128 * 2 ^ (k * 7) % 18446744073709551616 : Nat) : Int) := by
    rw [IntKind.wrap_u64]; simp
  rw [hx, u64_or_nat _ _ (Nat.mod_lt _ (by decide)) (Nat.mod_lt _ (by decide))]
  congr 1
  have := Nat.or_mod_two_pow (a := val l) (b := c.toNat % 128 * 2 ^ (k * 7)) (n := 64)
  rw [show (2 : Nat) ^ 64 = 18446744073709551616 by decide] at this
  rw [← this]
  congr 1
  have hv := val_lt l
  have e128 : ∀ n : Nat, 128 ^ n = 2 ^ (n * 7) := fun n => by rw [Nat.mul_comm, Nat.pow_mul]
  rw [hk, e128] at hv
  rw [val_snoc, hk, e128, Nat.mul_comm (c.toNat % 128), Nat.or_comm, ← Nat.two_pow_add_eq_or_of_lt hv]
  omega
theorem val_ok (l : List UInt8) (k : Nat) (c : UInt8) (hk : l.length = k) (h9 : k ≤ 9) (hc : c.toNat < 128) (h : ¬ (k = 9 ∧ 1 < c.toNat)) : val (l ++ [c]) < 18446744073709551616 := by
  have hv := val_lt l
  rw [hk] at hv
  rw [val_snoc, hk]
  have hm : c.toNat % 128 = c.toNat := by omega
  rw [hm]
  rcases Nat.lt_or_ge k 9 with q | q
  · have h1 : 128 ^ k ≤ 128 ^ 8 := Nat.pow_le_pow_right (by omega) (by omega)
    have h2 : 128 ^ k * c.toNat ≤ 128 ^ 8 * 127 := Nat.mul_le_mul h1 (by omega)
    have h3 : (128 : Nat) ^ 8 = 72057594037927936 := by decide
    omega
  · have hk9 : k = 9 := by omega
    subst hk9
    have hc1 : c.toNat ≤ 1 := by omega
    have h3 : (128 : Nat) ^ 9 = 9223372036854775808 := by decide
    have h2 : 128 ^ 9 * c.toNat ≤ 128 ^ 9 * 1 := Nat.mul_le_mul (Nat.le_refl _) hc1
    omega
theorem val_no (l : List UInt8) (c : UInt8) (hk : l.length = 9) (hc : c.toNat < 128) (h : 1 < c.toNat) : 18446744073709551616 ≤ val (l ++ [c]) := by
  rw [val_snoc, hk]
  have hm : c.toNat % 128 = c.toNat := by omega
  rw [hm]
  have h3 : (128 : Nat) ^ 9 = 9223372036854775808 := by decide
  have h2 : 128 ^ 9 * 2 ≤ 128 ^ 9 * c.toNat := Nat.mul_le_mul (Nat.le_refl _) (by omega)
  omega
theorem data_at (s : ByteArray) (k : Nat) (h : k < s.size) : s.data.toList[k]? = some s[k] := by
  rw [List.getElem?_eq_getElem (by simpa using h)]; rfl
theorem cut_size (s : ByteArray) (k : Nat) (h : k < s.size) : (s.extract 0 (k + 1)).size = k + 1 := by
  rw [ByteArray.size_extract]; omega
theorem cut_at (s : ByteArray) (k : Nat) (h : k < s.size) (h2 : k < (s.extract 0 (k + 1)).size) : (s.extract 0 (k + 1))[k]'h2 = s[k] := by
  simp [ByteArray.getElem_extract]
set_option maxRecDepth 100000 in
set_option maxHeartbeats 2000000 in
theorem take_ex (s : ByteArray) (w : World) :
    Calls Try.prog 12 #[.string s] w fun e w' => (∃ a, Tk s.data.toList a ∧ e = .returned (tkR a)) ∧ w = w' := by
  go_enter Try.func12, Try.ntmps12
  go_wp2_with fail
  obtain ⟨M, hM⟩ : ∃ M : Nat, M = min s.size 10 := ⟨_, rfl⟩
  have hM1 : min (s.size : Int) 10 = (M : Int) := by omega
  have hMs : M ≤ s.size := by omega
  have hMt : M ≤ 10 := by omega
  have HM : Hid (s.size ≤ M ∨ 10 ≤ M) := by show s.size ≤ M ∨ 10 ≤ M; omega
  clear hM
  rw [hM1]
  go_loopw [5, 10] (fun u i wr => ∃ k z : Nat, k ≤ M ∧ z < 18446744073709551616 ∧ i = .int .i64 (k : Int) ∧ u = .int .u64 (z : Int) ∧ Hid (z = val (s.data.toList.take k) % 18446744073709551616 ∧ ∀ x ∈ s.data.toList.take k, 128 ≤ x.toNat) ∧ wr = w) (fun _ i _ => M - (intOf i).toNat)
  case atStart => exact ⟨0, 0, Nat.zero_le _, by omega, rfl, rfl, ⟨by simp [val], by simp⟩, rfl⟩
  case round =>
    obtain ⟨k, z, hk, hz, rfl, rfl, HI, rfl⟩ := hrel
    by_cases hlt : k < M
    · have hks : k < s.size := by omega
      have hk9 : k ≤ 9 := by omega
      have hsn := take_snoc s k hks
      have hln : (s.data.toList.take k).length = k := by rw [List.length_take, list_size]; omega
      have e1 := or_step (s.data.toList.take k) k (s[k]'hks) hln
      rw [← HI.out.1, ← hsn] at e1
      obtain ⟨z2, hz2⟩ : ∃ z2, z2 = val (s.data.toList.take (k + 1)) % 18446744073709551616 := ⟨_, rfl⟩
      rw [← hz2] at e1
      have hz26 : z2 < 18446744073709551616 := by rw [hz2]; exact Nat.mod_lt _ (by decide)
      by_cases hc : 128 ≤ (s[k]'hks).toNat
      · have hci : (128 : Int) ≤ ((s[k]'hks).toNat : Int) := by omega
        have HN : Hid (z2 = val (s.data.toList.take (k + 1)) % 18446744073709551616 ∧ ∀ x ∈ s.data.toList.take (k + 1), 128 ≤ x.toNat) := by
          refine ⟨hz2, fun x hx => ?_⟩
          rw [hsn, List.mem_append] at hx
          rcases hx with hx | hx
          · exact HI.out.2 x hx
          · simp at hx; rw [hx]; exact hc
        clear hz2 hsn hln HI hc
        go_wp2
        go_roundw
        case rel => exact ⟨k + 1, z2, by omega, hz26, by go_num, rfl, HN, trivial⟩
        case measure => simp [intOf]; omega
      · have hci : ¬ (128 : Int) ≤ ((s[k]'hks).toNat : Int) := by omega
        have hsz := cut_size s k hks
        have hat := cut_at s k hks (by omega)
        obtain ⟨X, hX⟩ : ∃ X, X = s.extract 0 (k + 1) := ⟨_, rfl⟩
        have HW := Lib.hid (fun W => wasteful_any (s.extract 0 (k + 1)) k W hsz (by omega) (by omega))
        have HB := Lib.hid (fun W => beyond_any (s.extract 0 (k + 1)) k W hsz (by omega) (by omega))
        rw [hat, ← hX] at HW HB
        by_cases a : 0 < k ∧ (s[k]'hks).toNat = 0
        · have HT : Hid (Tk s.data.toList none) := tk_miss s.data.toList k (s[k]'hks) (data_at s k hks) HI.out.2 (by omega) (.inl a)
          rw [decide_eq_true a] at HW
          clear hz2 hsn hln HI hc hsz hat HB a
          go_wp2_with fail
          rw [← hX]
          refine (HW.out _).mono ?_
          rintro e w' ⟨rfl, rfl⟩
          clear hX
          go_wp2
          go_ret3
          exact ⟨⟨none, HT.out, rfl⟩, rfl⟩
        · rw [decide_eq_false a] at HW
          by_cases b : k = 9 ∧ 1 < (s[k]'hks).toNat
          · have HT : Hid (Tk s.data.toList none) := tk_miss s.data.toList k (s[k]'hks) (data_at s k hks) HI.out.2 (by omega) (.inr (by rw [hsn]; exact val_no _ _ (by rw [hln, b.1]) (by omega) b.2))
            rw [decide_eq_true b] at HB
            clear hz2 hsn hln HI hc hsz hat b a
            go_wp2_with fail
            rw [← hX]
            refine (HW.out _).mono ?_
            rintro e w' ⟨rfl, rfl⟩
            go_wp2_with fail
            rw [← hX]
            refine (HB.out _).mono ?_
            rintro e w' ⟨rfl, rfl⟩
            clear hX
            go_wp2
            go_ret3
            exact ⟨⟨none, HT.out, rfl⟩, rfl⟩
          · rw [decide_eq_false b] at HB
            have hv : val (s.data.toList.take (k + 1)) < 18446744073709551616 := by rw [hsn]; exact val_ok _ _ _ hln hk9 (by omega) b
            have ht := tk_hit s.data.toList k (s[k]'hks) (data_at s k hks) HI.out.2 (by omega) (fun q => fun q2 => a ⟨q, q2⟩) hv
            rw [Nat.mod_eq_of_lt hv] at hz2
            rw [← hz2] at ht
            have HT := Lib.hid ht
            have HU : Hid (∀ W : World, Calls Try.prog 26 #[.int .u64 (z2 : Int)] W fun e w' => e = .returned (.int .i64 (unf z2)) ∧ W = w') := fun W => unfolded_any z2 W hz26
            clear hz2 hsn hln HI hc hsz hat b a hv ht
            go_wp2_with fail
            rw [← hX]
            refine (HW.out _).mono ?_
            rintro e w' ⟨rfl, rfl⟩
            go_wp2_with fail
            rw [← hX]
            refine (HB.out _).mono ?_
            rintro e w' ⟨rfl, rfl⟩
            clear hX
            go_wp2_with fail
            refine (HU.out _).mono ?_
            rintro e w' ⟨rfl, rfl⟩
            go_wp2
            go_ret3
            have hR : tkR (some (unf z2)) = .tuple #[.int .i64 (unf z2), .int .i64 ((k : Int) + 1), .int .i64 0] := by
              show Value.tuple #[_, .int .i64 (nl (unf z2) : Nat), _] = _
              rw [HT.out.2]; rfl
            exact ⟨⟨_, HT.out.1, by rw [hR]; rfl⟩, rfl⟩
    · have hkM : k = M := by omega
      have HT : Hid (Tk s.data.toList none) := tk_none s.data.toList k HI.out.2 (by rw [hkM, list_size]; exact HM.out)
      clear hkM HI
      go_wp2
      go_ret3
      exact ⟨⟨none, HT.out, rfl⟩, rfl⟩
theorem take_any (s : ByteArray) (a : Option Int) (w : World) (h : Tk s.data.toList a) :
    Calls Try.prog 12 #[.string s] w fun e w' => e = .returned (tkR a) ∧ w = w' :=
  (take_ex s w).mono fun _ _ ⟨⟨_, h1, e⟩, hw⟩ => ⟨by rw [e, h1.one h], hw⟩
theorem take_yes (r : List UInt8) (n : Int) (w : World) (h : Tk r (some n)) :
    Calls Try.prog 12 #[.string (str r)] w fun e w' => e = .returned (.tuple #[.int .i64 n, .int .i64 (nl n : Nat), .int .i64 0]) ∧ w = w' := take_any (str r) (some n) w (by rw [str_list]; exact h)
theorem take_no (r : List UInt8) (w : World) (h : Tk r none) :
    Calls Try.prog 12 #[.string (str r)] w fun e w' => e = .returned (.tuple #[.int .i64 0, .int .i64 0, .int .i64 2]) ∧ w = w' := take_any (str r) none w (by rw [str_list]; exact h)
end Go.Proofs.Ytmfgdpbnnlmjhaa
