/- Blocks known whole; rows of strings in memory; bytes and numbers as the walks spell them. -/
import Derived.Laws.BitsAllLaws
import Derived.Test.YtjffcgimdffkoaaGreatDoorBk
import Derived.Test.YtjffcgimdffkoaaGreatDoorRcMath
namespace Go.Proofs.YtjffcgimdffkoaaGreatDoor
open Go.RowKit

theorem Has.drew {w : World} {g t : Nat} {cs : Array Value} (h : Has w g t cs) : Has w.drew g t cs := h
theorem Has.drewN {w : World} {g t : Nat} {cs : Array Value} (h : Has w g t cs) (n : Nat) : Has (w.drewN n) g t cs := h

/-- from place o of block b on the strings xs lie -/
def Strs (w : World) (b o : Nat) (xs : List ByteArray) : Prop := ∀ (j : Nat) x, xs[j]? = some x → w.cell? ⟨b, o + j, none⟩ = some (.string x)
theorem Strs.up {w w' : World} {b o : Nat} {xs : List ByteArray} (h : Strs w b o xs) (q : Below w.heap.size w w') : Strs w' b o xs := fun j x e => kcell q (h j x e)
theorem Strs.drew {w : World} {b o : Nat} {xs : List ByteArray} (h : Strs w b o xs) : Strs w.drew b o xs := h
theorem Strs.drewN {w : World} {b o : Nat} {xs : List ByteArray} (h : Strs w b o xs) (n : Nat) : Strs (w.drewN n) b o xs := fun j x e => by simpa using h j x e
theorem Strs.at {w : World} {b o : Nat} {xs : List ByteArray} (h : Strs w b o xs) {j : Nat} (hj : j < xs.length) : w.cell? ⟨b, o + j, none⟩ = some (.string xs[j]) := h j _ (List.getElem?_eq_getElem hj)
theorem Strs.drop {w : World} {b o : Nat} {xs : List ByteArray} (h : Strs w b o xs) (k : Nat) : Strs w b (o + k) (xs.drop k) := fun j x e => by
  rw [List.getElem?_drop] at e
  have := h _ x e
  rwa [show o + (k + j) = o + k + j by omega] at this
/-- the strings as a block's cells -/
def rowA (xs : List ByteArray) : Array Value := (xs.map Value.string).toArray
theorem Has.strs {w : World} {g : Nat} {xs : List ByteArray} {t : Nat} (h : Has w g t (rowA xs)) : Strs w g 0 xs := fun j x e => by
  rw [Nat.zero_add, h.cell]; simp [rowA, e]
theorem Has.puts {w : World} {g t : Nat} {xs : List ByteArray} (h : Has w g t (rowA xs)) (i : Nat) (x : ByteArray) : Has (w.setCell ⟨g, i, none⟩ (.string x)) g t (rowA (xs.set i x)) := by
  have := h.put i (.string x)
  have e : (rowA xs).setIfInBounds i (.string x) = rowA (xs.set i x) := by simp [rowA, List.map_set]
  rwa [e] at this

/-- the table of halves of bytes lies where it should -/
def Tb (w : World) : Prop := ∀ i : Nat, i < 16 → w.cell? ⟨0, i, none⟩ = some (.int .u32 ((stp4 i : Nat) : Int))
theorem Tb.pos {w : World} (h : Tb w) : 0 < w.heap.size := World.block_lt_of_cell? _ _ (h 0 (by omega))
theorem Tb.up {W w : World} (h : Tb W) (hb : Below W.heap.size W w) : Tb w := fun i hi => kcell hb (h i hi)
theorem Tb.drew {w : World} (h : Tb w) : Tb w.drew := h
theorem Tb.drewN {w : World} (n : Nat) (h : Tb w) : Tb (w.drewN n) := fun i hi => by simpa using h i hi

/-- bytes as a string -/
def str (l : List UInt8) : ByteArray := ⟨l.toArray⟩
theorem str_list (l : List UInt8) : (str l).data.toList = l := by simp [str]
theorem str_size (l : List UInt8) : (str l).size = l.length := by simp [str, ByteArray.size]
theorem str_of (s : ByteArray) : str s.data.toList = s := by simp [str]
theorem list_size (s : ByteArray) : s.data.toList.length = s.size := (Lib.size_eq s).symm
theorem take_snoc (s : ByteArray) (k : Nat) (h : k < s.size) : s.data.toList.take (k + 1) = s.data.toList.take k ++ [s[k]] := by
  rw [List.take_succ_eq_append_getElem (by simpa using h)]; rfl
theorem ret_int {k : IntKind} {a b : Int} (h : a = b) : Ending.returned (.int k a) = .returned (.int k b) := by rw [h]
theorem xor32 {a b : Nat} (ha : a < 4294967296) (hb : b < 4294967296) : bits .xor .u32 (a : Int) (b : Int) = ((a ^^^ b : Nat) : Int) := u32_xor_nat a b ha hb
theorem low4 {a : Nat} (ha : a < 4294967296) : bits .and .u32 (a : Int) 15 = ((a % 16 : Nat) : Int) := by
  have := u32_and_nat a 15 ha (by omega)
  rw [show ((15 : Nat) : Int) = 15 by rfl] at this
  rw [this, show (15 : Nat) = 2 ^ 4 - 1 by rfl, Nat.and_two_pow_sub_one_eq_mod]
theorem half32 {a : Nat} (ha : a < 4294967296) : bits .xor .u32 ((a : Int) / 16) ((stp4 (a % 16) : Nat) : Int) = ((stp4 a : Nat) : Int) := by
  have := xor32 (a := a / 16) (b := stp4 (a % 16)) (by omega) (stp4_lt (by omega))
  rw [show ((a / 16 : Nat) : Int) = (a : Int) / 16 by omega] at this
  rw [this, stp4_half a]
end Go.Proofs.YtjffcgimdffkoaaGreatDoor

namespace Go.Proofs.YtjffcgimdffkoaaGreatDoor
open Go.RowKit

set_option maxHeartbeats 400000 in
theorem chk_any (s : ByteArray) (w : World) (hs : s.size ≤ maxLen) (hT : Tb w) :
    Calls Tryz.prog 75 #[.string s] w fun e w' => e = .returned (.int .u32 ((crc s.data.toList : Nat) : Int)) ∧ w = w' := by
  unfold maxLen at hs
  have HT := Lib.hid hT
  clear hT
  go_enter Tryz.func75, Tryz.ntmps75
  go_wp2
  go_loop [3, 7] (fun x i => ∃ k z : Nat, k ≤ s.size ∧ z < 4294967296 ∧ Hid (z = crcS 4294967295 (s.data.toList.take k)) ∧ i = .int .i64 k ∧ x = .int .u32 (z : Int)) (fun _ i => s.size - (intOf i).toNat)
  case atStart => exact ⟨0, 4294967295, Nat.zero_le _, by omega, rfl, rfl, rfl⟩
  case round =>
    obtain ⟨k, z, hk, hz, HZ, rfl, rfl⟩ := hrel
    by_cases hlt : k < s.size
    · have hts := take_snoc s k hlt
      obtain ⟨c, hc⟩ : ∃ c, c = (s[k]).toNat := ⟨_, rfl⟩
      have hc6 : c < 256 := by rw [hc]; exact (s[k]).toNat_lt
      obtain ⟨a, ha⟩ : ∃ a, a = z ^^^ c := ⟨_, rfl⟩
      have ha6 : a < 4294967296 := by rw [ha]; exact Nat.xor_lt_two_pow (n := 32) hz (by omega)
      have e1 : bits .xor .u32 (z : Int) (((s[k]).toNat : Int) % 4294967296) = (a : Int) := by
        rw [← hc, show ((c : Int) % 4294967296) = (c : Int) by omega, xor32 hz (by omega), ← ha]
      have e2 := low4 ha6
      have e3 := HT.out (a % 16) (by omega)
      have e4 := half32 ha6
      obtain ⟨b, hb⟩ : ∃ b, b = stp4 a := ⟨_, rfl⟩
      have hb6 : b < 4294967296 := by rw [hb]; exact stp4_lt ha6
      rw [← hb] at e4
      obtain ⟨t1, ht1⟩ : ∃ t1, t1 = stp4 (a % 16) := ⟨_, rfl⟩
      rw [← ht1] at e3 e4
      obtain ⟨i1, hi1⟩ : ∃ i1, i1 = a % 16 := ⟨_, rfl⟩
      have hi16 : i1 < 16 := by omega
      rw [← hi1] at e2 e3
      have f2 := low4 hb6
      have f3 := HT.out (b % 16) (by omega)
      have f4 := half32 hb6
      obtain ⟨d, hd⟩ : ∃ d, d = stp4 b := ⟨_, rfl⟩
      have hd6 : d < 4294967296 := by rw [hd]; exact stp4_lt hb6
      rw [← hd] at f4
      obtain ⟨t2, ht2⟩ : ∃ t2, t2 = stp4 (b % 16) := ⟨_, rfl⟩
      rw [← ht2] at f3 f4
      obtain ⟨i2, hi2⟩ : ∃ i2, i2 = b % 16 := ⟨_, rfl⟩
      have hi26 : i2 < 16 := by omega
      rw [← hi2] at f2 f3
      have HD : Hid (d = crcS 4294967295 (s.data.toList.take (k + 1))) := by
        rw [hts, crcS_snoc, ← HZ.out, ← hc]; rw [hd, hb, ha]; rfl
      clear hts hd ht2 hi2 hb ht1 hi1 ha hc HZ
      go_wp2
      go_round
      case rel => exact ⟨k + 1, d, by omega, hd6, HD, by go_num, rfl⟩
      case measure => simp [intOf]; omega
    · have hk' : k = s.size := by omega
      have HR : Hid (bits .xor .u32 4294967295 (z : Int) = ((crc s.data.toList : Nat) : Int)) := by
        have := xor32 (a := 4294967295) (b := z) (by omega) hz
        rw [show ((4294967295 : Nat) : Int) = 4294967295 by rfl] at this
        show bits .xor .u32 4294967295 (z : Int) = ((crc s.data.toList : Nat) : Int)
        have hx := xor_ones32 z hz
        rw [this, hx, crc, HZ.out, hk', List.take_of_length_le (by rw [list_size]; omega)]
      clear hk' HZ
      go_wp2
      go_ret
      exact ⟨ret_int HR.out, rfl⟩

/-- a number by bytes, the highest one first -/
def num (l : List UInt8) : Nat := l.foldl (fun n c => 256 * n + c.toNat) 0
theorem num_snoc (l : List UInt8) (c : UInt8) : num (l ++ [c]) = 256 * num l + c.toNat := by simp [num]
theorem num_lt (l : List UInt8) : num l < 256 ^ l.length := by
  have h : ∀ (l : List UInt8) (n m : Nat), n < 256 ^ m → l.foldl (fun n c => 256 * n + c.toNat) n < 256 ^ (m + l.length) := by
    intro l
    induction l with
    | nil => exact fun n m h => h
    | cons c l ih =>
      intro n m h
      have hc := c.toNat_lt
      have := ih (256 * n + c.toNat) (m + 1) (by rw [Nat.pow_succ]; omega)
      rwa [show m + 1 + l.length = m + (c :: l).length by simp; omega] at this
  have := h l 0 0 (by simp)
  simpa [num] using this
theorem num_four {l : List UInt8} (h : l.length < 4) : num l < 16777216 :=
  Nat.lt_of_lt_of_le (num_lt l) (Nat.pow_le_pow_right (n := 256) (by omega) (show l.length ≤ 3 by omega))
theorem num_five {l : List UInt8} (h : l.length ≤ 4) : num l < 4294967296 :=
  Nat.lt_of_lt_of_le (num_lt l) (Nat.pow_le_pow_right (n := 256) (by omega) (show l.length ≤ 4 by omega))
theorem or8 (n c : Nat) (hc : c < 256) : (n * 256) ||| c = 256 * n + c := by
  have := Nat.two_pow_add_eq_or_of_lt (i := 8) (b := c) (by omega) n
  rw [show n * 256 = 2 ^ 8 * n by omega, ← this]

set_option maxHeartbeats 400000 in
theorem num_any (s : ByteArray) (w : World) (hs : s.size ≤ 4) :
    Calls Tryz.prog 71 #[.string s] w fun e w' => e = .returned (.int .u32 ((num s.data.toList : Nat) : Int)) ∧ w = w' := by
  go_enter Tryz.func71, Tryz.ntmps71
  go_wp2
  go_loop [3, 7] (fun x i => ∃ k z : Nat, k ≤ s.size ∧ Hid (z = num (s.data.toList.take k)) ∧ i = .int .i64 k ∧ x = .int .u32 (z : Int)) (fun _ i => s.size - (intOf i).toNat)
  case atStart => exact ⟨0, 0, Nat.zero_le _, rfl, rfl, rfl⟩
  case round =>
    obtain ⟨k, z, hk, HZ, rfl, rfl⟩ := hrel
    by_cases hlt : k < s.size
    · have hts := take_snoc s k hlt
      obtain ⟨c, hc⟩ : ∃ c, c = (s[k]).toNat := ⟨_, rfl⟩
      have hc6 : c < 256 := by rw [hc]; exact (s[k]).toNat_lt
      have hz : z < 16777216 := by rw [HZ.out]; exact num_four (by rw [List.length_take]; omega)
      have e1 : bits .or .u32 ((z : Int) * 256) (((s[k]).toNat : Int) % 4294967296) = ((256 * z + c : Nat) : Int) := by
        rw [← hc, show ((c : Int) % 4294967296) = (c : Int) by omega, show ((z : Int) * 256) = ((z * 256 : Nat) : Int) by omega, u32_or_nat _ _ (by omega) (by omega), or8 z c hc6]
      have HD : Hid (256 * z + c = num (s.data.toList.take (k + 1))) := by
        rw [hts, num_snoc, ← HZ.out, ← hc]; rfl
      obtain ⟨d, hd⟩ : ∃ d, d = 256 * z + c := ⟨_, rfl⟩
      rw [← hd] at e1 HD
      clear hts hc HZ hd
      go_wp2
      go_round
      case rel => exact ⟨k + 1, d, by omega, HD, by go_num, rfl⟩
      case measure => simp [intOf]; omega
    · have HR : Hid (z = num s.data.toList) := by
        rw [HZ.out, List.take_of_length_le (by rw [list_size]; omega)]; rfl
      clear HZ
      go_wp2
      go_ret
      exact ⟨by rw [← HR.out]; rfl, rfl⟩

set_option maxHeartbeats 400000 in
theorem odd_any (s : ByteArray) (w : World) :
    Calls Tryz.prog 70 #[.string s] w fun e w' => e = .returned (.bool ((s.size : Int) != 64)) ∧ w = w' := by
  go_enter Tryz.func70, Tryz.ntmps70
  go_wp2
  go_ret
  exact ⟨rfl, rfl⟩

/-- how many blocks -/
def nb (n : Nat) : Nat := (n + 70) / 64
def nbI (n : Int) : Int := if n < 0 ∨ 40000 < n then 0 else (n + 70) / 64
set_option maxHeartbeats 400000 in
theorem blk_any (n : Int) (w : World) :
    Calls Tryz.prog 36 #[.int .i64 n] w fun e w' => e = .returned (.int .i64 (nbI n)) ∧ w = w' := by
  by_cases a : n < 0
  · rw [show nbI n = 0 by unfold nbI; rw [if_pos (by omega)]]
    go_enter Tryz.func36, Tryz.ntmps36
    go_wp2
    go_ret
    exact ⟨rfl, rfl⟩
  · by_cases b : 40000 < n
    · rw [show nbI n = 0 by unfold nbI; rw [if_pos (by omega)]]
      go_enter Tryz.func36, Tryz.ntmps36
      go_wp2
      go_ret
      exact ⟨rfl, rfl⟩
    · have a' : 0 ≤ n := by omega
      have b' : n ≤ 40000 := by omega
      have HE : Hid (nbI n = (7 + n + 64 - 1) / 64) := by unfold nbI; rw [if_neg (by omega)]; show (n + 70) / 64 = _; congr 1; omega
      go_enter Tryz.func36, Tryz.ntmps36
      go_wp2
      go_ret
      exact ⟨by rw [HE.out]; rfl, rfl⟩
end Go.Proofs.YtjffcgimdffkoaaGreatDoor
