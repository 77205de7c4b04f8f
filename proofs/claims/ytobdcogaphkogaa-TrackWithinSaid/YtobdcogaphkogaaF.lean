/- Contracts: the length of a number of 64 bits. -/
import Derived.Test.YtobdcogaphkogaaE
namespace Go.Proofs.Ytobdcogaphkogaa
open Go.RowKit

def lenList : List UInt8 := (([0, 1, 2, 2, 3, 3, 3, 3, 4, 4, 4, 4, 4, 4, 4, 4, 5, 5, 5, 5, 5, 5, 5, 5, 5, 5, 5, 5, 5, 5, 5, 5] ++ List.replicate 32 6) ++ List.replicate 64 7 ++ List.replicate 128 8)
def lenTab : ByteArray := ⟨lenList.toArray⟩

theorem tab_size : lenTab.size = 256 := by decide +kernel
theorem tab_chk : (List.range 256).all (fun n => decide (n < 2 ^ (lenTab[n]!).toNat) && decide ((lenTab[n]!).toNat ≤ 8)) = true := by decide +kernel
theorem tab_ok (n : Nat) (h : n < lenTab.size) : n < 2 ^ (lenTab[n]'h).toNat ∧ (lenTab[n]'h).toNat ≤ 8 := by
  have c := List.all_eq_true.1 tab_chk n (List.mem_range.2 (by rw [tab_size] at h; exact h))
  rw [getElem!_pos lenTab n h] at c
  rw [Bool.and_eq_true, decide_eq_true_eq, decide_eq_true_eq] at c
  exact c

def LenOk (x : Int) (w : World) (e : Ending) (w' : World) : Prop := ∃ k : Nat, k ≤ 64 ∧ x < 2 ^ k ∧ e = .returned (.int .i64 k) ∧ w = w'

theorem len_num (x y : Int) (c : Nat) (P : Int) (hP : (2 : Int) ^ c = P) (hy : 0 ≤ y) (hx : x < (y + 1) * P) (T : Nat) (t1 : y.toNat < 2 ^ T) : x < (2 : Int) ^ (c + T) := by
  have h3 : y + 1 ≤ (2 : Int) ^ T := by
    have h5 : ((y.toNat : Nat) : Int) < ((2 ^ T : Nat) : Int) := Int.ofNat_lt.2 t1
    rw [Int.natCast_pow, Int.toNat_of_nonneg hy] at h5
    exact h5
  have hPp : 0 ≤ P := by rw [← hP]; exact Int.le_of_lt (Int.pow_pos (by decide))
  have h6 : (y + 1) * P ≤ (2 : Int) ^ T * P := Int.mul_le_mul_of_nonneg_right h3 hPp
  rw [Int.pow_add, hP, Int.mul_comm P]
  exact Int.lt_of_lt_of_le hx h6

theorem len_wrap (c T : Nat) (hc : c ≤ 56) (t2 : T ≤ 8) : wrap64 ((c : Int) + wrap64 (T : Int)) = ((c + T : Nat) : Int) := by
  have e1 : wrap64 (T : Int) = T := IntWalk.wrap64_in _ ⟨by omega, by omega⟩
  rw [e1, IntWalk.wrap64_in _ ⟨by omega, by omega⟩, Int.natCast_add]

theorem len_core (x : Int) (w : World) (y : Int) (c : Nat) (P : Int) (hP : (2 : Int) ^ c = P) (hc : c ≤ 56) (hy : 0 ≤ y) (hx : x < (y + 1) * P) (T : Nat) (t1 : y.toNat < 2 ^ T) (t2 : T ≤ 8) :
    LenOk x w (.returned (.int .i64 (wrap64 ((c : Int) + wrap64 (T : Int))))) w := by
  rw [len_wrap c T hc t2]
  have h64 : c + T ≤ 64 := by clear hP hx t1; omega
  have hlt := len_num x y c P hP hy hx T t1
  exact ⟨c + T, h64, hlt, rfl, rfl⟩
theorem len_leaf (x : Int) (w : World) (y : Int) (c : Nat) (P : Int) (hP : (2 : Int) ^ c = P) (hc : c ≤ 56) (hy : 0 ≤ y) (h : y.toNat < lenTab.size) (hx : x < (y + 1) * P) :
    LenOk x w (.returned (.int .i64 (wrap64 ((c : Int) + wrap64 (((lenTab[y.toNat]'h).toNat : Nat) : Int))))) w :=
  len_core x w y c P hP hc hy hx _ (tab_ok _ h).1 (tab_ok _ h).2

theorem len_leaf0 (x : Int) (w : World) (hy : 0 ≤ x) (h : x.toNat < lenTab.size) :
    LenOk x w (.returned (.int .i64 (wrap64 (wrap64 (((lenTab[x.toNat]'h).toNat : Nat) : Int))))) w := by
  have := len_core x w x 0 1 (by rfl) (by omega) hy (by omega) _ (tab_ok _ h).1 (tab_ok _ h).2
  rw [show ((0 : Nat) : Int) + wrap64 (((lenTab[x.toNat]'h).toNat : Nat) : Int) = wrap64 (((lenTab[x.toNat]'h).toNat : Nat) : Int) from Int.zero_add _] at this
  exact this

theorem tab_lt (y : Int) (h : y < 256) : y.toNat < lenTab.size := by rw [tab_size]; omega

set_option maxRecDepth 100000 in
set_option maxHeartbeats 400000 in
theorem len64_any (x : Int) (w : World) (h0 : 0 ≤ x) (h1 : x < 9223372036854775808) :
    Calls Try.prog 67 #[.int .u64 x] w (LenOk x w) := by
  go_enter Try.func67, Try.ntmps67
  go_wp2
  all_goals go_ret
  · exact len_leaf x w _ 56 72057594037927936 (by decide) (by decide) (by omega) (tab_lt _ (by omega)) (by omega)
  · exact len_leaf x w _ 48 281474976710656 (by decide) (by decide) (by omega) (tab_lt _ (by omega)) (by omega)
  · exact len_leaf x w _ 40 1099511627776 (by decide) (by decide) (by omega) (tab_lt _ (by omega)) (by omega)
  · exact len_leaf x w _ 32 4294967296 (by decide) (by decide) (by omega) (tab_lt _ (by omega)) (by omega)
  · exact len_leaf x w _ 24 16777216 (by decide) (by decide) (by omega) (tab_lt _ (by omega)) (by omega)
  · exact len_leaf x w _ 16 65536 (by decide) (by decide) (by omega) (tab_lt _ (by omega)) (by omega)
  · exact len_leaf x w _ 8 256 (by decide) (by decide) (by omega) (tab_lt _ (by omega)) (by omega)
  · exact len_leaf0 x w (by omega) (tab_lt _ (by omega))
end Go.Proofs.Ytobdcogaphkogaa
