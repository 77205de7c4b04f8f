/- Blocks known whole; rows of strings in memory; bytes and numbers as the walks spell them. -/
import Derived.Test.YtmfgdpbnnlmjhaaBk
import Derived.Test.YtmfgdpbnnlmjhaaRcMath
import Derived.Laws.BitsAllLaws
namespace Go.Proofs.Ytmfgdpbnnlmjhaa
open Go.RowKit

theorem Has.drew {w : World} {g t : Nat} {cs : Array Value} (h : Has w g t cs) : Has w.drew g t cs := h
theorem Has.drewN {w : World} {g t : Nat} {cs : Array Value} (h : Has w g t cs) (n : Nat) : Has (w.drewN n) g t cs := h

/-- from place o of block b on the strings xs lie -/
def Strs (w : World) (b o : Nat) (xs : List ByteArray) : Prop := ∀ (j : Nat) x, xs[j]? = some x → w.cell? ⟨b, o + j, none⟩ = some (.string x)
theorem Strs.up {w w' : World} {b o : Nat} {xs : List ByteArray} (h : Strs w b o xs) (q : Below w.heap.size w w') : Strs w' b o xs := fun j x e => kcell q (h j x e)
theorem Strs.drew {w : World} {b o : Nat} {xs : List ByteArray} (h : Strs w b o xs) : Strs w.drew b o xs := h
theorem Strs.drewN {w : World} {b o : Nat} {xs : List ByteArray} (h : Strs w b o xs) (n : Nat) : Strs (w.drewN n) b o xs := fun j x e => by simpa using h j x e
theorem Strs.at {w : World} {b o : Nat} {xs : List ByteArray} (h : Strs w b o xs) {j : Nat} (hj : j < xs.length) : w.cell? ⟨b, o + j, none⟩ = some (.string xs[j]) := h j _ (List.getElem?_eq_getElem hj)
theorem Strs.drop {w : World} {b o : Nat} {xs : List ByteArray} (h : Strs w b o xs) (k : Nat) : Strs w b (o + k) (xs.drop k) := fun j x e => by
  rw [List.getElem?_drop] at e
  have := h _ x e
  rwa [show o + (k + j) = o + k + j by omega] at this
/-- the strings as a block's cells -/
def rowA (xs : List ByteArray) : Array Value := (xs.map Value.string).toArray
theorem Has.strs {w : World} {g : Nat} {xs : List ByteArray} {t : Nat} (h : Has w g t (rowA xs)) : Strs w g 0 xs := fun j x e => by
  rw [Nat.zero_add, h.cell]; simp [rowA, e]
theorem Has.puts {w : World} {g t : Nat} {xs : List ByteArray} (h : Has w g t (rowA xs)) (i : Nat) (x : ByteArray) : Has (w.setCell ⟨g, i, none⟩ (.string x)) g t (rowA (xs.set i x)) := by
  have := h.put i (.string x)
  have e : (rowA xs).setIfInBounds i (.string x) = rowA (xs.set i x) := by simp [rowA, List.map_set]
  rwa [e] at this

/-- bytes as a string -/
def str (l : List UInt8) : ByteArray := ⟨l.toArray⟩
theorem str_list (l : List UInt8) : (str l).data.toList = l := by simp [str]
theorem str_size (l : List UInt8) : (str l).size = l.length := by simp [str, ByteArray.size]
theorem str_of (s : ByteArray) : str s.data.toList = s := by simp [str]
theorem list_size (s : ByteArray) : s.data.toList.length = s.size := (Lib.size_eq s).symm
theorem take_snoc (s : ByteArray) (k : Nat) (h : k < s.size) : s.data.toList.take (k + 1) = s.data.toList.take k ++ [s[k]] := by
  rw [List.take_succ_eq_append_getElem (by simpa using h)]; rfl
theorem ret_int {k : IntKind} {a b : Int} (h : a = b) : Ending.returned (.int k a) = .returned (.int k b) := by rw [h]
theorem xor32 {a b : Nat} (ha : a < 4294967296) (hb : b < 4294967296) : bits .xor .u32 (a : Int) (b : Int) = ((a ^^^ b : Nat) : Int) := u32_xor_nat a b ha hb
theorem low4 {a : Nat} (ha : a < 4294967296) : bits .and .u32 (a : Int) 15 = ((a % 16 : Nat) : Int) := by
  have := u32_and_nat a 15 ha (by omega)
  rw [show ((15 : Nat) : Int) = 15 by rfl] at this
  rw [this, show (15 : Nat) = 2 ^ 4 - 1 by rfl, Nat.and_two_pow_sub_one_eq_mod]
theorem half32 {a : Nat} (ha : a < 4294967296) : bits .xor .u32 ((a : Int) / 16) ((stp4 (a % 16) : Nat) : Int) = ((stp4 a : Nat) : Int) := by
  have := xor32 (a := a / 16) (b := stp4 (a % 16)) (by omega) (stp4_lt (by omega))
  rw [show ((a / 16 : Nat) : Int) = (a : Int) / 16 by omega] at this
  rw [this, stp4_half a]
end Go.Proofs.Ytmfgdpbnnlmjhaa
