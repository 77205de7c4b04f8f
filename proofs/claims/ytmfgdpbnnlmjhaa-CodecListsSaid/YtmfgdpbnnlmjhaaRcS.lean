/- Are lists of strings the same? Lists that may be nil. -/
import Derived.Test.YtmfgdpbnnlmjhaaRcBk
import Derived.BigQuiet
import Derived.Lib.SmallJoins
namespace Go.Proofs.Ytmfgdpbnnlmjhaa
open Go.RowKit

/-- a list of strings, perhaps none -/
def StrA (w : World) (a : Option Addr) (xs : List ByteArray) : Prop := xs = [] ∨ ∃ b o, a = some ⟨b, o, none⟩ ∧ Strs w b o xs
theorem StrA.up {w w' : World} {a : Option Addr} {xs : List ByteArray} (h : StrA w a xs) (q : Below w.heap.size w w') : StrA w' a xs := by
  rcases h with h | ⟨b, o, e, h⟩
  · exact .inl h
  · exact .inr ⟨b, o, e, h.up q⟩

/-- are lists the same? -/
theorem strs_eq (x y : ByteArray) : (x.toList == y.toList) = decide (x = y) := by
  rw [Lib.toList_data, Lib.toList_data, Bool.eq_iff_iff]
  simp
  constructor
  · intro h; rw [← str_of x, ← str_of y, h]
  · intro h; rw [h]
set_option maxHeartbeats 1000000 in
theorem same_other (a b : Option Addr) (n m c d : Nat) (w : World) (h : n ≠ m) :
    Calls Try.prog 22 #[.slice a n c, .slice b m d] w fun e w' => e = .returned (.bool false) ∧ w = w' := by
  have h1 : ((n : Int) != (m : Int)) = true := by simp; omega
  clear h
  go_enter Try.func22, Try.ntmps22
  go_wp2
  go_ret
  exact ⟨rfl, rfl⟩
set_option maxHeartbeats 2000000 in
theorem sames_any (b o c g p d : Nat) (xs ys : List ByteArray) (w : World) (hX : Strs w b o xs) (hY : Strs w g p ys) (hl : xs.length = ys.length) (hN : xs.length ≤ 100000) :
    Calls Try.prog 22 #[.slice (some ⟨b, o, none⟩) xs.length c, .slice (some ⟨g, p, none⟩) ys.length d] w fun e w' => e = .returned (.bool (decide (xs = ys))) ∧ ∃ n, w' = w.drewN n := by
  obtain ⟨N, hNe⟩ : ∃ N, N = xs.length := ⟨_, rfl⟩
  have hM : N = ys.length := by rw [hNe, hl]
  rw [← hl, ← hNe]
  rw [← hNe] at hN
  have HX := Lib.hid (And.intro hX hY)
  have HL := Lib.hid (And.intro hNe hM)
  clear hX hY hNe hM hl
  go_enter Try.func22, Try.ntmps22
  go_wp2
  go_loopw [5] (fun i wr => ∃ k : Nat, k ≤ N ∧ i = .int .i64 (k : Int) ∧ Hid ((∃ n, wr = w.drewN n) ∧ xs.take k = ys.take k)) (fun i _ => N - (intOf i).toNat)
  case atStart => exact ⟨0, Nat.zero_le _, rfl, ⟨0, rfl⟩, rfl⟩
  case round =>
    obtain ⟨k, hk, rfl, HI⟩ := hrel
    by_cases hlt : k < N
    · have hkx : k < xs.length := by rw [← HL.out.1]; exact hlt
      have hky : k < ys.length := by rw [← HL.out.2]; exact hlt
      obtain ⟨x, hx⟩ : ∃ x, x = xs[k] := ⟨_, rfl⟩
      obtain ⟨y, hy⟩ : ∃ y, y = ys[k] := ⟨_, rfl⟩
      have hcx : wr.cell? ⟨b, o + k, none⟩ = some (.string x) := by obtain ⟨n, e⟩ := HI.out.1; rw [e, hx]; exact (HX.out.1.drewN n).at hkx
      have hcy : wr.cell? ⟨g, p + k, none⟩ = some (.string y) := by obtain ⟨n, e⟩ := HI.out.1; rw [e, hy]; exact (HX.out.2.drewN n).at hky
      by_cases q : x = y
      · have hq : (x.toList == y.toList) = true := by rw [strs_eq, decide_eq_true q]
        have HT : Hid (xs.take (k + 1) = ys.take (k + 1)) := by
          show xs.take (k + 1) = ys.take (k + 1)
          rw [List.take_succ_eq_append_getElem hkx, List.take_succ_eq_append_getElem hky, ← hx, ← hy, HI.out.2, q]
        have HD := Lib.hid HI.out.1
        clear hx hy HI q
        go_wp2_with fail
        go_quiet (fail)
        go_wp2
        go_roundw
        case rel => exact ⟨k + 1, by omega, by go_num, by obtain ⟨n, e⟩ := HD.out; exact ⟨n + nq, by rw [e, drewN_two]⟩, HT.out⟩
        case measure => simp [intOf]; omega
      · have hq : (x.toList == y.toList) = false := by rw [strs_eq, decide_eq_false q]
        have HF : Hid (decide (xs = ys) = false) := by
          show decide (xs = ys) = false
          rw [decide_eq_false_iff_not]
          intro e
          apply q
          rw [hx, hy]
          simp only [e]
        have HD := Lib.hid HI.out.1
        clear hx hy HI q
        go_wp2_with fail
        go_quiet (fail)
        go_wp2
        go_ret
        exact ⟨by rw [HF.out]; rfl, by obtain ⟨n, e⟩ := HD.out; exact ⟨n + nq, by rw [e, drewN_two]⟩⟩
    · have HF : Hid (decide (xs = ys) = true) := by
        show decide (xs = ys) = true
        rw [decide_eq_true_eq]
        have := HI.out.2
        rwa [List.take_of_length_le (by rw [← HL.out.1]; omega), List.take_of_length_le (by rw [← HL.out.2]; omega)] at this
      have HD := Lib.hid HI.out.1
      clear HI
      go_wp2
      go_ret
      exact ⟨by rw [HF.out]; rfl, HD.out⟩
end Go.Proofs.Ytmfgdpbnnlmjhaa
