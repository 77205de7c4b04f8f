/- A record's blocks: the program's Lay. -/
import Derived.StillTailTactics
import Derived.Test.YtjffcgimdffkoaaGreatDoorQs
import Derived.Test.YtjffcgimdffkoaaGreatDoorShelf
namespace Go.Proofs.YtjffcgimdffkoaaGreatDoor
open Go.RowKit

/-- all bytes of a record, up to whole blocks -/
def wholeL (l : List UInt8) (m : Bool) : List UInt8 := frontL l m ++ l ++ List.replicate (64 * nb l.length - (7 + l.length)) 0
theorem nb_ge (n : Nat) : 7 + n ≤ 64 * nb n := by unfold nb; omega
theorem whole_len (l : List UInt8) (m : Bool) : (wholeL l m).length = 64 * nb l.length := by
  have := nb_ge l.length
  simp [wholeL, front_len]; omega
/-- the i-th block -/
def blkL (W : List UInt8) (i : Nat) : List UInt8 := (W.drop (64 * i)).take 64
def layX (l : List UInt8) (m : Bool) : List ByteArray := (List.range (nb l.length)).map fun i => str (blkL (wholeL l m) i)
theorem lay_len (l : List UInt8) (m : Bool) : (layX l m).length = nb l.length := by simp [layX]
theorem zeroS : (Tryz.prog.info? 9).map (fun i => (i.zero, i.size, i.bytes)) = some (some (.string ⟨#[]⟩), 1, 16) := by kernel_rfl
theorem made_strs (k : Nat) : madeCells (Value.string ⟨#[]⟩).cells k = rowA (List.replicate k ⟨#[]⟩) := by
  apply Array.ext
  · simp [madeCells, rowA, Value.cells]
  · intro i h1 h2
    simp [madeCells, rowA, Value.cells, Nat.mod_one]
theorem repeat_zero (k : Nat) : Lib.repeatL [(0 : UInt8)] k = List.replicate k 0 := by
  induction k with
  | zero => rfl
  | succ k ih => simp [Lib.repeatL, List.replicate_succ] at ih ⊢ <;> simp [ih]
theorem rows_next (n i : Nat) (f : Nat → ByteArray) (h : i < n) : (((List.range i).map f) ++ List.replicate (n - i) (⟨#[]⟩ : ByteArray)).set i (f i) = ((List.range (i + 1)).map f) ++ List.replicate (n - (i + 1)) ⟨#[]⟩ := by
  rw [List.set_append, if_neg (by simp), List.length_map, List.length_range, Nat.sub_self, show n - i = (n - (i + 1)) + 1 by omega, List.replicate_succ, List.set_cons_zero, List.range_succ, List.map_append, List.append_assoc]
  rfl

theorem app3 (a b : List UInt8) (s : ByteArray) : str a ++ s ++ str b = str (a ++ s.data.toList ++ b) := by
  apply ByteArray.ext
  simp [str]
theorem cut_blk (L : List UInt8) (i : Nat) : (str L).extract (i * 64) ((i + 1) * 64) = str (blkL L i) := by
  show (⟨L.toArray⟩ : ByteArray).extract _ _ = _
  rw [Lib.extract_mk, show (i + 1) * 64 - i * 64 = 64 by omega, Nat.mul_comm i 64]
  rfl

set_option maxHeartbeats 1000000 in
theorem lay_full (s : ByteArray) (m : Bool) (w : World) (hs : 40000 < s.size) (hx : s.size ≤ maxLen) :
    Calls Tryz.prog 57 #[.string s, .bool m] w fun e w' => e = .returned (.tuple #[.slice none 0 0, .int .i64 4]) ∧ w = w' := by
  unfold maxLen at hx
  go_enter Tryz.func57, Tryz.ntmps57
  go_wp2
  go_ret2
  exact ⟨rfl, rfl⟩

set_option maxHeartbeats 1000000 in
theorem lay_any (s : ByteArray) (m : Bool) (w : World) (hs : s.size ≤ 40000) (hT : Tb w) :
    Calls Tryz.prog 57 #[.string s, .bool m] w fun e w' => e = .returned (.tuple #[.slice (some ⟨w.heap.size, 0, none⟩) (nb s.size) (nb s.size), .int .i64 0]) ∧ Has w' w.heap.size 9 (rowA (layX s.data.toList m)) ∧ Below w.heap.size w w' := by
  obtain ⟨i0, hi, hz0, hz1, hz2⟩ := info_parts zeroS
  obtain ⟨n, hn⟩ : ∃ n, n = nb s.size := ⟨_, rfl⟩
  have hn0 : n ≤ 626 := by rw [hn]; unfold nb; omega
  have hmk : ∀ W : World, (Instr.makeSlice 49 (.int .i64 (n : Int)) (.int .i64 (n : Int))).run Tryz.prog W = .ok (.slice (some ⟨W.heap.size, 0, none⟩) n n) (W.alloc (.cells (rowA (List.replicate n ⟨#[]⟩)) 9)) := fun W => by
    rw [run_make W 49 9 i0 _ Tryz.underlying49 hi hz0 .i64 .i64 n n (by omega) (by omega) (by rw [hz2]; omega) (by omega), hz1, ← made_strs]
    simp
  clear hi hz0 hz1 hz2
  obtain ⟨C, hC⟩ : ∃ C, C = rowA (List.replicate n ⟨#[]⟩) := ⟨_, rfl⟩
  rw [← hC] at hmk
  have HC := Lib.hid hC
  clear hC
  rw [← hn]
  have hnI : nbI s.size = (n : Int) := by rw [hn]; unfold nbI nb; rw [if_neg (by omega)]; omega
  have HB := Lib.hid (blk_any s.size w)
  rw [hnI] at HB
  have HN := Lib.hid hn
  have HT := Lib.hid hT
  clear hnI hn hT
  go_enter Tryz.func57, Tryz.ntmps57
  go_wp2_with fail
  refine HB.out.mono ?_
  rintro e w' ⟨rfl, rfl⟩
  go_wp2_with fail
  obtain ⟨W0, hW⟩ : ∃ W0, W0 = w.alloc (.cells C 9) := ⟨_, rfl⟩
  have hb0 := Lib.hid (show Below w.heap.size w W0 by rw [hW]; exact boxed _ _)
  have hh0 := Lib.hid (show Has W0 w.heap.size 9 (rowA (List.replicate n ⟨#[]⟩)) by rw [hW, ← HC.out]; exact Has.fresh _ _ _)
  rw [← hW]
  clear hW HC hmk
  refine (front_any s m W0 hs (HT.out.up hb0.out)).mono ?_
  rintro e w1 ⟨rfl, hb1⟩
  have hh1 := Lib.hid (hh0.out.up hb1)
  have hB1 := Lib.hid (up2 hb0.out hb1)
  clear hb1 hb0 hh0
  obtain ⟨F, hF⟩ : ∃ F, F = str (frontL s.data.toList m) := ⟨_, rfl⟩
  rw [← hF]
  have sF : F.size = 7 := by rw [hF, str_size, front_len]
  have q1 : ¬ (9223372036854775807 < F.size + s.size) := by omega
  have HF := Lib.hid hF
  have SF := Lib.hid sF
  clear hF sF
  go_wp2_with fail
  obtain ⟨k, hk⟩ : ∃ k, k = n * 64 - (7 + s.size) := ⟨_, rfl⟩
  have hge : 7 + s.size ≤ n * 64 := by have := nb_ge s.size; rw [← HN.out] at this; omega
  have hk' : (n : Int) * 64 - ((F.size : Int) + (s.size : Int)) = (k : Int) := by rw [SF.out]; omega
  rw [hk']
  refine (Tryz.strings_Repeat ⟨#[0]⟩ k w1 (by omega) (by show 1 * k ≤ _; omega)).mono ?_
  rintro e w2 ⟨rfl, hb2⟩
  have hh2 := Lib.hid (hh1.out.up hb2)
  have hB2 := Lib.hid (up2 hB1.out hb2)
  clear hb2 hB1 hh1
  rw [show Lib.repeatL (⟨#[0]⟩ : ByteArray).data.toList k = List.replicate k 0 from repeat_zero k]
  obtain ⟨R, hR⟩ : ∃ R : ByteArray, R = ⟨(List.replicate k (0 : UInt8)).toArray⟩ := ⟨_, rfl⟩
  rw [← hR]
  have sR : R.size = k := by rw [hR]; show (List.replicate k (0 : UInt8)).toArray.size = k; simp
  have q2 : ¬ (9223372036854775807 < F.size + s.size + R.size) := by rw [SF.out]; omega
  have hW : F ++ s ++ R = str (wholeL s.data.toList m) := by
    have e1 : F = str (frontL s.data.toList m) := HF.out
    have e2 : R = str (List.replicate k 0) := hR
    rw [e1, e2, app3, hk, HN.out, wholeL, list_size, Nat.mul_comm 64]
  obtain ⟨W, hWd⟩ : ∃ W, W = F ++ s ++ R := ⟨_, rfl⟩
  rw [← hWd] at hW
  have sW : W.size = n * 64 := by rw [hW, str_size, whole_len, list_size, ← HN.out, Nat.mul_comm]
  have HW := Lib.hid hW
  have SW := Lib.hid sW
  have HWd := Lib.hid hWd
  clear hW sW hWd hR sR hk hk' hge q1
  go_wp2
  rw [← HWd.out]
  clear q2 HWd HF SF HB
  go_loopw [32] (fun vi wr => ∃ i : Nat, i ≤ n ∧ vi = .int .i64 (i : Int) ∧ Hid (Below w.heap.size w wr ∧ Has wr w.heap.size 9 (rowA (((List.range i).map fun i => str (blkL (wholeL s.data.toList m) i)) ++ List.replicate (n - i) ⟨#[]⟩)))) (fun vi _ => n - (intOf vi).toNat)
  case atStart => exact ⟨0, Nat.zero_le _, rfl, hB2.out, by simpa using hh2.out⟩
  case round =>
    obtain ⟨i, hi, rfl, HI⟩ := hrel
    by_cases hlt : i < n
    · have hx : W.extract (i * 64) ((i + 1) * 64) = str (blkL (wholeL s.data.toList m) i) := by rw [HW.out, cut_blk]
      have hlen : (((List.range i).map fun i => str (blkL (wholeL s.data.toList m) i)) ++ List.replicate (n - i) (⟨#[]⟩ : ByteArray)).length = n := by simp; omega
      obtain ⟨x0, hc0⟩ : ∃ x0, wr.cell? ⟨w.heap.size, i, none⟩ = some (.string x0) := by
        have := HI.out.2.strs.at (j := i) (by omega)
        rw [Nat.zero_add] at this
        exact ⟨_, this⟩
      have hf0 := HI.out.2.free i
      obtain ⟨X, hX⟩ : ∃ X, X = str (blkL (wholeL s.data.toList m) i) := ⟨_, rfl⟩
      rw [← hX] at hx
      have HN2 : Hid (Below w.heap.size w (wr.setCell ⟨w.heap.size, i, none⟩ (.string X)) ∧ Has (wr.setCell ⟨w.heap.size, i, none⟩ (.string X)) w.heap.size 9 (rowA (((List.range (i + 1)).map fun i => str (blkL (wholeL s.data.toList m) i)) ++ List.replicate (n - (i + 1)) ⟨#[]⟩))) := by
        refine ⟨HI.out.1.setCell (Nat.le_refl _) _, ?_⟩
        have := HI.out.2.puts i X
        rw [hX, rows_next n i (fun i => str (blkL (wholeL s.data.toList m) i)) hlt] at this
        rw [hX]
        exact this
      have hsz := SW.out
      have hb1 : i * 64 ≤ W.size := by omega
      have hb2 : (i + 1) * 64 ≤ W.size := by omega
      clear hlen hX HI
      go_wp2
      go_roundw
      case rel => exact ⟨i + 1, by omega, by go_num, HN2⟩
      case measure => simp [intOf]; omega
    · have hin : i = n := by omega
      have HF : Hid (Has wr w.heap.size 9 (rowA (layX s.data.toList m))) := by
        have := HI.out.2
        rw [hin, Nat.sub_self, List.replicate_zero, List.append_nil, HN.out] at this
        unfold layX
        rw [list_size]
        exact this
      have HB := Lib.hid HI.out.1
      clear HI hin
      go_wp2
      go_ret2
      exact ⟨rfl, HF.out, HB.out⟩
end Go.Proofs.YtjffcgimdffkoaaGreatDoor

namespace Go.Proofs.YtjffcgimdffkoaaGreatDoor
open Go.RowKit

theorem head_odd (s : ByteArray) (w : World) (h : s.size ≠ 64) :
    Calls Tryz.prog 53 #[.string s] w fun e w' => e = .returned (.tuple #[.bool false, .int .i64 0, .int .i64 2]) ∧ w = w' := by
  have h1 : ((s.size : Int) != 64) = true := by simp; omega
  have HO := Lib.hid (odd_any s w)
  rw [h1] at HO
  clear h h1
  go_enter Tryz.func53, Tryz.ntmps53
  go_wp2_with fail
  refine HO.out.mono ?_
  rintro e w' ⟨rfl, rfl⟩
  go_wp2
  exact bodyPost_ret (v := .tuple #[.bool false, .int .i64 0, .int .i64 2]) (by simp [results, Tryz.results53, go_sem]) rfl ⟨rfl, rfl⟩
theorem ext_list (s : ByteArray) (a b : Nat) : (s.extract a b).data.toList = (s.data.toList.drop a).take (b - a) := by
  have := Lib.extract_mk s.data.toList a b
  rw [show (⟨s.data.toList.toArray⟩ : ByteArray) = s from str_of s] at this
  rw [this]
theorem ext_toList (s : ByteArray) (a b : Nat) : (s.extract a b).toList = (s.data.toList.drop a).take (b - a) := by rw [Lib.toList_data, ext_list]
theorem ext_str (s : ByteArray) (a b : Nat) : s.extract a b = str ((s.data.toList.drop a).take (b - a)) := by rw [← ext_list, str_of]
/-- what a first block tells: its mark, how many, or why not -/
def headA (l : List UInt8) : Bool × Nat × Nat :=
  if l.length ≠ 64 then (false, 0, 2)
  else if l.take 1 = [0] then (false, 0, 0)
  else if l.take 1 = [1] then (if 40000 < num ((l.drop 1).take 2) then (false, 0, 8) else (true, num ((l.drop 1).take 2), 0))
  else (false, 0, 2)
def headV (h : Bool × Nat × Nat) : Value := .tuple #[.bool h.1, .int .i64 (h.2.1 : Int), .int .i64 (h.2.2 : Int)]
set_option maxHeartbeats 1000000 in
theorem head_64 (s : ByteArray) (w : World) (h : s.size = 64) :
    Calls Tryz.prog 53 #[.string s] w fun e w' => e = .returned (headV (headA s.data.toList)) ∧ w = w' := by
  have h1 : ((s.size : Int) != 64) = false := by simp; omega
  have HO := Lib.hid (odd_any s w)
  rw [h1] at HO
  have h2 : 64 ≤ s.size := by omega
  have hl : ¬ s.data.toList.length ≠ 64 := by rw [list_size]; omega
  have e01 : (s.extract 0 1).toList = s.data.toList.take 1 := by rw [ext_toList]; rfl
  have HM := Lib.hid (num_any (s.extract 1 3) w (by simp; omega))
  rw [ext_list] at HM
  clear h1 h
  by_cases a : s.data.toList.take 1 = [0]
  · have ha : ((s.extract 0 1).toList == [0]) = true := by rw [e01, a]; rfl
    have HE : Hid (headV (headA s.data.toList) = .tuple #[.bool false, .int .i64 0, .int .i64 0]) := by unfold headA; rw [if_neg hl, if_pos a]; rfl
    rw [HE.out]
    clear a e01 hl
    go_enter Tryz.func53, Tryz.ntmps53
    go_wp2_with fail
    refine HO.out.mono ?_
    rintro e w' ⟨rfl, rfl⟩
    go_wp2
    exact bodyPost_ret (v := .tuple #[.bool false, .int .i64 0, .int .i64 0]) (by simp [results, Tryz.results53, go_sem]) rfl ⟨rfl, rfl⟩
  have ha : ((s.extract 0 1).toList == [0]) = false := by rw [e01]; simpa using a
  by_cases b : s.data.toList.take 1 = [1]
  · have hb : ((s.extract 0 1).toList == [1]) = true := by rw [e01, b]; rfl
    obtain ⟨n, hn⟩ : ∃ n, n = num ((s.data.toList.drop 1).take (3 - 1)) := ⟨_, rfl⟩
    rw [← hn] at HM
    have hn6 : n < 4294967296 := by rw [hn]; exact num_five (by rw [List.length_take]; omega)
    by_cases c : 40000 < n
    · have hc : ¬ n ≤ 40000 := by omega
      have HE : Hid (headV (headA s.data.toList) = .tuple #[.bool false, .int .i64 0, .int .i64 8]) := by unfold headA; rw [if_neg hl, if_neg a, if_pos b, if_pos (by rw [← show 3 - 1 = 2 by rfl, ← hn]; exact c)]; rfl
      rw [HE.out]
      clear a b e01 hl
      have HN := Lib.hid hn
      clear hn
      go_enter Tryz.func53, Tryz.ntmps53
      go_wp2_with fail
      refine HO.out.mono ?_
      rintro e w' ⟨rfl, rfl⟩
      go_wp2_with fail
      refine HM.out.mono ?_
      rintro e w' ⟨rfl, rfl⟩
      go_wp2
      exact bodyPost_ret (v := .tuple #[.bool false, .int .i64 0, .int .i64 8]) (by simp [results, Tryz.results53, go_sem]) rfl ⟨rfl, rfl⟩
    · have HE : Hid (headV (headA s.data.toList) = .tuple #[.bool true, .int .i64 n, .int .i64 0]) := by unfold headA; rw [if_neg hl, if_neg a, if_pos b, if_neg (by rw [← show 3 - 1 = 2 by rfl, ← hn]; exact c), hn]; rfl
      rw [HE.out]
      clear a b e01 hl
      have HN := Lib.hid hn
      have hc : n ≤ 40000 := by omega
      clear hn c
      go_enter Tryz.func53, Tryz.ntmps53
      go_wp2_with fail
      refine HO.out.mono ?_
      rintro e w' ⟨rfl, rfl⟩
      go_wp2_with fail
      refine HM.out.mono ?_
      rintro e w' ⟨rfl, rfl⟩
      go_wp2
      exact bodyPost_ret (v := .tuple #[.bool true, .int .i64 n, .int .i64 0]) (by simp [results, Tryz.results53, go_sem]) rfl ⟨rfl, rfl⟩
  have hb : ((s.extract 0 1).toList == [1]) = false := by rw [e01]; simpa using b
  have HE : Hid (headV (headA s.data.toList) = .tuple #[.bool false, .int .i64 0, .int .i64 2]) := by unfold headA; rw [if_neg hl, if_neg a, if_neg b]; rfl
  rw [HE.out]
  clear a b e01 hl
  go_enter Tryz.func53, Tryz.ntmps53
  go_wp2_with fail
  refine HO.out.mono ?_
  rintro e w' ⟨rfl, rfl⟩
  go_wp2
  exact bodyPost_ret (v := .tuple #[.bool false, .int .i64 0, .int .i64 2]) (by simp [results, Tryz.results53, go_sem]) rfl ⟨rfl, rfl⟩
theorem head_any (s : ByteArray) (w : World) :
    Calls Tryz.prog 53 #[.string s] w fun e w' => e = .returned (headV (headA s.data.toList)) ∧ w = w' := by
  by_cases h : s.size = 64
  · exact head_64 s w h
  · rw [show headA s.data.toList = (false, 0, 2) by unfold headA; rw [if_pos (by rw [list_size]; exact h)]]
    exact head_odd s w h
end Go.Proofs.YtjffcgimdffkoaaGreatDoor
