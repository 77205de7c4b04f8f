/- What a record's first block tells: the program's Head. -/
import Derived.Test.YtjffcgimdffkoaaDoorRcC
namespace Go.Proofs.YtjffcgimdffkoaaDoor
open Go.RowKit

theorem head_odd (s : ByteArray) (w : World) (h : s.size ≠ 64) :
    Calls Tryd.prog 38 #[.string s] w fun e w' => e = .returned (.tuple #[.bool false, .int .i64 0, .int .i64 2]) ∧ w = w' := by
  have h1 : ((s.size : Int) != 64) = true := by simp; omega
  have HO := Lib.hid (odd_any s w)
  rw [h1] at HO
  clear h h1
  go_enter Tryd.func38, Tryd.ntmps38
  go_wp2_with fail
  refine HO.out.mono ?_
  rintro e w' ⟨rfl, rfl⟩
  go_wp2
  exact bodyPost_ret (v := .tuple #[.bool false, .int .i64 0, .int .i64 2]) (by simp [results, Tryd.results38, go_sem]) rfl ⟨rfl, rfl⟩
theorem ext_list (s : ByteArray) (a b : Nat) : (s.extract a b).data.toList = (s.data.toList.drop a).take (b - a) := by
  have := Lib.extract_mk s.data.toList a b
  rw [show (⟨s.data.toList.toArray⟩ : ByteArray) = s from str_of s] at this
  rw [this]
theorem ext_toList (s : ByteArray) (a b : Nat) : (s.extract a b).toList = (s.data.toList.drop a).take (b - a) := by rw [Lib.toList_data, ext_list]
theorem ext_str (s : ByteArray) (a b : Nat) : s.extract a b = str ((s.data.toList.drop a).take (b - a)) := by rw [← ext_list, str_of]
/-- what a first block tells: its mark, how many, or why not -/
def headA (l : List UInt8) : Bool × Nat × Nat :=
  if l.length ≠ 64 then (false, 0, 2)
  else if l.take 1 = [0] then (false, 0, 0)
  else if l.take 1 = [1] then (if 40000 < num ((l.drop 1).take 2) then (false, 0, 8) else (true, num ((l.drop 1).take 2), 0))
  else (false, 0, 2)
def headV (h : Bool × Nat × Nat) : Value := .tuple #[.bool h.1, .int .i64 (h.2.1 : Int), .int .i64 (h.2.2 : Int)]
set_option maxHeartbeats 1000000 in
theorem head_64 (s : ByteArray) (w : World) (h : s.size = 64) :
    Calls Tryd.prog 38 #[.string s] w fun e w' => e = .returned (headV (headA s.data.toList)) ∧ w = w' := by
  have h1 : ((s.size : Int) != 64) = false := by simp; omega
  have HO := Lib.hid (odd_any s w)
  rw [h1] at HO
  have h2 : 64 ≤ s.size := by omega
  have hl : ¬ s.data.toList.length ≠ 64 := by rw [list_size]; omega
  have e01 : (s.extract 0 1).toList = s.data.toList.take 1 := by rw [ext_toList]; rfl
  have HM := Lib.hid (num_any (s.extract 1 3) w (by simp; omega))
  rw [ext_list] at HM
  clear h1 h
  by_cases a : s.data.toList.take 1 = [0]
  · have ha : ((s.extract 0 1).toList == [0]) = true := by rw [e01, a]; rfl
    have HE : Hid (headV (headA s.data.toList) = .tuple #[.bool false, .int .i64 0, .int .i64 0]) := by unfold headA; rw [if_neg hl, if_pos a]; rfl
    rw [HE.out]
    clear a e01 hl
    go_enter Tryd.func38, Tryd.ntmps38
    go_wp2_with fail
    refine HO.out.mono ?_
    rintro e w' ⟨rfl, rfl⟩
    go_wp2
    exact bodyPost_ret (v := .tuple #[.bool false, .int .i64 0, .int .i64 0]) (by simp [results, Tryd.results38, go_sem]) rfl ⟨rfl, rfl⟩
  have ha : ((s.extract 0 1).toList == [0]) = false := by rw [e01]; simpa using a
  by_cases b : s.data.toList.take 1 = [1]
  · have hb : ((s.extract 0 1).toList == [1]) = true := by rw [e01, b]; rfl
    obtain ⟨n, hn⟩ : ∃ n, n = num ((s.data.toList.drop 1).take (3 - 1)) := ⟨_, rfl⟩
    rw [← hn] at HM
    have hn6 : n < 4294967296 := by rw [hn]; exact num_five (by rw [List.length_take]; omega)
    by_cases c : 40000 < n
    · have hc : ¬ n ≤ 40000 := by omega
      have HE : Hid (headV (headA s.data.toList) = .tuple #[.bool false, .int .i64 0, .int .i64 8]) := by unfold headA; rw [if_neg hl, if_neg a, if_pos b, if_pos (by rw [← show 3 - 1 = 2 by rfl, ← hn]; exact c)]; rfl
      rw [HE.out]
      clear a b e01 hl
      have HN := Lib.hid hn
      clear hn
      go_enter Tryd.func38, Tryd.ntmps38
      go_wp2_with fail
      refine HO.out.mono ?_
      rintro e w' ⟨rfl, rfl⟩
      go_wp2_with fail
      refine HM.out.mono ?_
      rintro e w' ⟨rfl, rfl⟩
      go_wp2
      exact bodyPost_ret (v := .tuple #[.bool false, .int .i64 0, .int .i64 8]) (by simp [results, Tryd.results38, go_sem]) rfl ⟨rfl, rfl⟩
    · have HE : Hid (headV (headA s.data.toList) = .tuple #[.bool true, .int .i64 n, .int .i64 0]) := by unfold headA; rw [if_neg hl, if_neg a, if_pos b, if_neg (by rw [← show 3 - 1 = 2 by rfl, ← hn]; exact c), hn]; rfl
      rw [HE.out]
      clear a b e01 hl
      have HN := Lib.hid hn
      have hc : n ≤ 40000 := by omega
      clear hn c
      go_enter Tryd.func38, Tryd.ntmps38
      go_wp2_with fail
      refine HO.out.mono ?_
      rintro e w' ⟨rfl, rfl⟩
      go_wp2_with fail
      refine HM.out.mono ?_
      rintro e w' ⟨rfl, rfl⟩
      go_wp2
      exact bodyPost_ret (v := .tuple #[.bool true, .int .i64 n, .int .i64 0]) (by simp [results, Tryd.results38, go_sem]) rfl ⟨rfl, rfl⟩
  have hb : ((s.extract 0 1).toList == [1]) = false := by rw [e01]; simpa using b
  have HE : Hid (headV (headA s.data.toList) = .tuple #[.bool false, .int .i64 0, .int .i64 2]) := by unfold headA; rw [if_neg hl, if_neg a, if_neg b]; rfl
  rw [HE.out]
  clear a b e01 hl
  go_enter Tryd.func38, Tryd.ntmps38
  go_wp2_with fail
  refine HO.out.mono ?_
  rintro e w' ⟨rfl, rfl⟩
  go_wp2
  exact bodyPost_ret (v := .tuple #[.bool false, .int .i64 0, .int .i64 2]) (by simp [results, Tryd.results38, go_sem]) rfl ⟨rfl, rfl⟩
theorem head_any (s : ByteArray) (w : World) :
    Calls Tryd.prog 38 #[.string s] w fun e w' => e = .returned (headV (headA s.data.toList)) ∧ w = w' := by
  by_cases h : s.size = 64
  · exact head_64 s w h
  · rw [show headA s.data.toList = (false, 0, 2) by unfold headA; rw [if_pos (by rw [list_size]; exact h)]]
    exact head_odd s w h
end Go.Proofs.YtjffcgimdffkoaaDoor
