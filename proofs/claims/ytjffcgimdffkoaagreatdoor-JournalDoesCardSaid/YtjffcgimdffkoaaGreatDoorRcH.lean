/- Are lists of strings the same? Lists that may be nil. -/
import Derived.BigQuiet
import Derived.Lib.SmallJoins
import Derived.Test.YtjffcgimdffkoaaGreatDoorRcA
import Derived.Test.YtjffcgimdffkoaaGreatDoorRcG
namespace Go.Proofs.YtjffcgimdffkoaaGreatDoor
open Go.RowKit

/-- a list of strings, perhaps none -/
def StrA (w : World) (a : Option Addr) (xs : List ByteArray) : Prop := xs = [] ∨ ∃ b o, a = some ⟨b, o, none⟩ ∧ Strs w b o xs
theorem StrA.up {w w' : World} {a : Option Addr} {xs : List ByteArray} (h : StrA w a xs) (q : Below w.heap.size w w') : StrA w' a xs := by
  rcases h with h | ⟨b, o, e, h⟩
  · exact .inl h
  · exact .inr ⟨b, o, e, h.up q⟩

/-- are lists the same? -/
theorem strs_eq (x y : ByteArray) : (x.toList == y.toList) = decide (x = y) := by
  rw [Lib.toList_data, Lib.toList_data, Bool.eq_iff_iff]
  simp
  constructor
  · intro h; rw [← str_of x, ← str_of y, h]
  · intro h; rw [h]
set_option maxHeartbeats 1000000 in
theorem same_other (a b : Option Addr) (n m c d : Nat) (w : World) (h : n ≠ m) :
    Calls Tryz.prog 23 #[.slice a n c, .slice b m d] w fun e w' => e = .returned (.bool false) ∧ w = w' := by
  have h1 : ((n : Int) != (m : Int)) = true := by simp; omega
  clear h
  go_enter Tryz.func23, Tryz.ntmps23
  go_wp2
  go_ret
  exact ⟨rfl, rfl⟩
set_option maxHeartbeats 2000000 in
theorem sames_any (b o c g p d : Nat) (xs ys : List ByteArray) (w : World) (hX : Strs w b o xs) (hY : Strs w g p ys) (hl : xs.length = ys.length) (hN : xs.length ≤ 100000) :
    Calls Tryz.prog 23 #[.slice (some ⟨b, o, none⟩) xs.length c, .slice (some ⟨g, p, none⟩) ys.length d] w fun e w' => e = .returned (.bool (decide (xs = ys))) ∧ ∃ n, w' = w.drewN n := by
  obtain ⟨N, hNe⟩ : ∃ N, N = xs.length := ⟨_, rfl⟩
  have hM : N = ys.length := by rw [hNe, hl]
  rw [← hl, ← hNe]
  rw [← hNe] at hN
  have HX := Lib.hid (And.intro hX hY)
  have HL := Lib.hid (And.intro hNe hM)
  clear hX hY hNe hM hl
  go_enter Tryz.func23, Tryz.ntmps23
  go_wp2
  go_loopw [5] (fun i wr => ∃ k : Nat, k ≤ N ∧ i = .int .i64 (k : Int) ∧ Hid ((∃ n, wr = w.drewN n) ∧ xs.take k = ys.take k)) (fun i _ => N - (intOf i).toNat)
  case atStart => exact ⟨0, Nat.zero_le _, rfl, ⟨0, rfl⟩, rfl⟩
  case round =>
    obtain ⟨k, hk, rfl, HI⟩ := hrel
    by_cases hlt : k < N
    · have hkx : k < xs.length := by rw [← HL.out.1]; exact hlt
      have hky : k < ys.length := by rw [← HL.out.2]; exact hlt
      obtain ⟨x, hx⟩ : ∃ x, x = xs[k] := ⟨_, rfl⟩
      obtain ⟨y, hy⟩ : ∃ y, y = ys[k] := ⟨_, rfl⟩
      have hcx : wr.cell? ⟨b, o + k, none⟩ = some (.string x) := by obtain ⟨n, e⟩ := HI.out.1; rw [e, hx]; exact (HX.out.1.drewN n).at hkx
      have hcy : wr.cell? ⟨g, p + k, none⟩ = some (.string y) := by obtain ⟨n, e⟩ := HI.out.1; rw [e, hy]; exact (HX.out.2.drewN n).at hky
      by_cases q : x = y
      · have hq : (x.toList == y.toList) = true := by rw [strs_eq, decide_eq_true q]
        have HT : Hid (xs.take (k + 1) = ys.take (k + 1)) := by
          show xs.take (k + 1) = ys.take (k + 1)
          rw [List.take_succ_eq_append_getElem hkx, List.take_succ_eq_append_getElem hky, ← hx, ← hy, HI.out.2, q]
        have HD := Lib.hid HI.out.1
        clear hx hy HI q
        go_wp2_with fail
        go_quiet (fail)
        go_wp2
        go_roundw
        case rel => exact ⟨k + 1, by omega, by go_num, by obtain ⟨n, e⟩ := HD.out; exact ⟨n + nq, by rw [e, drewN_two]⟩, HT.out⟩
        case measure => simp [intOf]; omega
      · have hq : (x.toList == y.toList) = false := by rw [strs_eq, decide_eq_false q]
        have HF : Hid (decide (xs = ys) = false) := by
          show decide (xs = ys) = false
          rw [decide_eq_false_iff_not]
          intro e
          apply q
          rw [hx, hy]
          simp only [e]
        have HD := Lib.hid HI.out.1
        clear hx hy HI q
        go_wp2_with fail
        go_quiet (fail)
        go_wp2
        go_ret
        exact ⟨by rw [HF.out]; rfl, by obtain ⟨n, e⟩ := HD.out; exact ⟨n + nq, by rw [e, drewN_two]⟩⟩
    · have HF : Hid (decide (xs = ys) = true) := by
        show decide (xs = ys) = true
        rw [decide_eq_true_eq]
        have := HI.out.2
        rwa [List.take_of_length_le (by rw [← HL.out.1]; omega), List.take_of_length_le (by rw [← HL.out.2]; omega)] at this
      have HD := Lib.hid HI.out.1
      clear HI
      go_wp2
      go_ret
      exact ⟨by rw [HF.out]; rfl, HD.out⟩
end Go.Proofs.YtjffcgimdffkoaaGreatDoor

namespace Go.Proofs.YtjffcgimdffkoaaGreatDoor
open Go.RowKit

theorem at_list (s : ByteArray) (i : Nat) (h : i < s.size) : s.data.toList[i]? = some s[i] := by
  rw [List.getElem?_eq_getElem (by rw [list_size]; exact h)]; rfl
theorem take_one (s : ByteArray) (h : 0 < s.size) : s.data.toList.take 1 = [s[0]] := by
  have := take_snoc s 0 h
  simpa using this
theorem two_at (s : ByteArray) (h : 2 < s.size) : (s.data.toList.drop 1).take 2 = [s[1], s[2]] := by
  have h' : 2 < s.data.toList.length := by rw [list_size]; exact h
  rw [List.drop_eq_getElem_cons (by omega), List.drop_eq_getElem_cons (by omega)]
  rfl
theorem num_two (a b : UInt8) : num [a, b] = 256 * a.toNat + b.toNat := by simp [num]

set_option maxHeartbeats 1000000 in
theorem rhead_odd (s : ByteArray) (w : World) (h : s.size ≠ 64) :
    Calls Tryz.prog 32 #[.string s] w fun e w' => e = .returned (.tuple #[.bool false, .int .i64 0, .int .i64 2]) ∧ w = w' := by
  have h1 : ((s.size : Int) != 64) = true := by simp; omega
  clear h
  go_enter Tryz.func32, Tryz.ntmps32
  go_wp2
  exact bodyPost_ret (v := .tuple #[.bool false, .int .i64 0, .int .i64 2]) (by simp [results, Tryz.results32, go_sem]) rfl ⟨rfl, rfl⟩
set_option maxHeartbeats 1000000 in
theorem rhead_64 (s : ByteArray) (w : World) (h : s.size = 64) :
    Calls Tryz.prog 32 #[.string s] w fun e w' => e = .returned (headV (headA s.data.toList)) ∧ ∃ n, w' = w.drewN n := by
  have h1 : ((s.size : Int) != 64) = false := by simp; omega
  have hl : ¬ s.data.toList.length ≠ 64 := by rw [list_size]; omega
  have h2 : 64 ≤ s.size := by omega
  have q0 : 0 < s.size := Nat.lt_of_lt_of_le (by decide) h2
  have q1 : 1 < s.size := Nat.lt_of_lt_of_le (by decide) h2
  have q2 : 2 < s.size := Nat.lt_of_lt_of_le (by decide) h2
  have t1 := take_one s q0
  have t2 := two_at s q2
  obtain ⟨c0, hc0⟩ : ∃ c : Nat, c = (s[0]'q0).toNat := ⟨_, rfl⟩
  obtain ⟨c1, hc1⟩ : ∃ c : Nat, c = (s[1]'q1).toNat := ⟨_, rfl⟩
  obtain ⟨c2, hc2⟩ : ∃ c : Nat, c = (s[2]'q2).toNat := ⟨_, rfl⟩
  have k0 : c0 < 256 := by rw [hc0]; exact UInt8.toNat_lt _
  have k1 : c1 < 256 := by rw [hc1]; exact UInt8.toNat_lt _
  have k2 : c2 < 256 := by rw [hc2]; exact UInt8.toNat_lt _
  have d0 : (((s[0]'q0).toNat : Int)) = (c0 : Int) := by rw [hc0]
  have d1 : (((s[1]'q1).toNat : Int)) = (c1 : Int) := by rw [hc1]
  have d2 : (((s[2]'q2).toNat : Int)) = (c2 : Int) := by rw [hc2]
  have ez : s.data.toList.take 1 = [0] ↔ c0 = 0 := by rw [t1, hc0]; simp [← UInt8.toNat_inj]
  have eo : s.data.toList.take 1 = [1] ↔ c0 = 1 := by rw [t1, hc0]; simp [← UInt8.toNat_inj]
  have en : num ((s.data.toList.drop 1).take 2) = 256 * c1 + c2 := by rw [t2, num_two, hc1, hc2]
  clear h t1 t2 hc0 hc1 hc2
  by_cases a : c0 = 0
  · have HE : Hid (headV (headA s.data.toList) = .tuple #[.bool false, .int .i64 0, .int .i64 0]) := by unfold headA; rw [if_neg hl, if_pos (ez.mpr a)]; rfl
    rw [HE.out]
    subst a
    clear ez eo en hl d1 d2
    go_enter Tryz.func32, Tryz.ntmps32
    go_wp2
    exact bodyPost_ret (v := .tuple #[.bool false, .int .i64 0, .int .i64 0]) (by simp [results, Tryz.results32, go_sem]) rfl ⟨rfl, 0, rfl⟩
  have ha : ((c0 : Int) == 0) = false := by simp; omega
  by_cases b : c0 = 1
  · subst b
    obtain ⟨n, hn⟩ : ∃ n, n = 256 * c1 + c2 := ⟨_, rfl⟩
    rw [← hn] at en
    by_cases c : 40000 < n
    · have HE : Hid (headV (headA s.data.toList) = .tuple #[.bool false, .int .i64 0, .int .i64 8]) := by unfold headA; rw [if_neg hl, if_neg (fun q => a (ez.mp q)), if_pos (eo.mpr rfl), en, if_pos c]; rfl
      rw [HE.out]
      have HN := Lib.hid hn
      have u1 : IntKind.i64.wrap (256 * (c1 : Int)) = 256 * (c1 : Int) := IntWalk.i64_in _ (by omega)
      have u2 : IntKind.i64.wrap (256 * (c1 : Int) + (c2 : Int)) = (n : Int) := by rw [IntWalk.i64_in _ (by omega)]; omega
      clear ez eo en hl hn a
      go_enter Tryz.func32, Tryz.ntmps32
      go_wp2_with fail
      go_quiet (fail)
      clear u1 u2
      go_wp2
      exact bodyPost_ret (v := .tuple #[.bool false, .int .i64 0, .int .i64 8]) (by simp [results, Tryz.results32, go_sem]) rfl ⟨rfl, nq, rfl⟩
    · have HE : Hid (headV (headA s.data.toList) = .tuple #[.bool true, .int .i64 (n : Int), .int .i64 0]) := by unfold headA; rw [if_neg hl, if_neg (fun q => a (ez.mp q)), if_pos (eo.mpr rfl), en, if_neg c]; rfl
      rw [HE.out]
      have HN := Lib.hid hn
      have u1 : IntKind.i64.wrap (256 * (c1 : Int)) = 256 * (c1 : Int) := IntWalk.i64_in _ (by omega)
      have u2 : IntKind.i64.wrap (256 * (c1 : Int) + (c2 : Int)) = (n : Int) := by rw [IntWalk.i64_in _ (by omega)]; omega
      have hc : n ≤ 40000 := by omega
      clear ez eo en hl hn a c
      go_enter Tryz.func32, Tryz.ntmps32
      go_wp2_with fail
      go_quiet (fail)
      clear u1 u2
      go_wp2
      exact bodyPost_ret (v := .tuple #[.bool true, .int .i64 (n : Int), .int .i64 0]) (by simp [results, Tryz.results32, go_sem]) rfl ⟨rfl, nq, rfl⟩
  have HE : Hid (headV (headA s.data.toList) = .tuple #[.bool false, .int .i64 0, .int .i64 2]) := by unfold headA; rw [if_neg hl, if_neg (fun q => a (ez.mp q)), if_neg (fun q => b (eo.mp q))]; rfl
  rw [HE.out]
  have hc : decide (1 < (c0 : Int)) = true := by simp; omega
  clear ez eo en hl a b d1 d2
  go_enter Tryz.func32, Tryz.ntmps32
  go_wp2
  exact bodyPost_ret (v := .tuple #[.bool false, .int .i64 0, .int .i64 2]) (by simp [results, Tryz.results32, go_sem]) rfl ⟨rfl, 0, rfl⟩
theorem rhead_any (s : ByteArray) (w : World) :
    Calls Tryz.prog 32 #[.string s] w fun e w' => e = .returned (headV (headA s.data.toList)) ∧ ∃ n, w' = w.drewN n := by
  by_cases h : s.size = 64
  · exact rhead_64 s w h
  · rw [show headA s.data.toList = (false, 0, 2) by unfold headA; rw [if_pos (by rw [list_size]; exact h)]]
    exact (rhead_odd s w h).mono fun _ _ ⟨a, b⟩ => ⟨a, 0, by rw [← b]; rfl⟩
end Go.Proofs.YtjffcgimdffkoaaGreatDoor
