/- CodecLists: the program and the reference give the same answers. -/
import Derived.Test.YtmfgdpbnnlmjhaaCxT
import Derived.Test.YtmfgdpbnnlmjhaaCxL
namespace Go.Proofs.Ytmfgdpbnnlmjhaa
open Go.RowKit

theorem list_both (b : Option Addr) (c : Nat) (ts : List ByteArray) (hsz : ∀ x ∈ ts, x.size ≤ 140737488355328) :
    ∃ (R : ByteArray) (E : Int), ∀ w, StrA w b ts →
      (Calls Try.prog 18 #[.slice b ts.length c] w fun e w' => e = .returned (.tuple #[.string R, .int .i64 E]) ∧ Below w.heap.size w w') ∧
      (Calls Try.prog 19 #[.slice b ts.length c] w fun e w' => e = .returned (.tuple #[.string R, .int .i64 E]) ∧ Below w.heap.size w w') := by
  by_cases h : LsOk (ls ts)
  · exact ⟨_, 0, fun w hX => ⟨list_ok b c ts w hX h, klist_ok b c ts w hX h⟩⟩
  · exact ⟨_, 4, fun w hX => ⟨list_no b c ts w hX h, klist_no b c ts w hX hsz h⟩⟩
theorem parts_both (s : ByteArray) (hs : s.size ≤ 1000000) :
    ∃ (ys : List ByteArray) (E : Int), ys.length ≤ 100000 ∧ ∀ w,
      (Calls Try.prog 20 #[.string s] w fun e w' => ∃ a c, e = .returned (.tuple #[.slice a ys.length c, .int .i64 E]) ∧ StrA w' a ys ∧ Below w.heap.size w w') ∧
      (Calls Try.prog 21 #[.string s] w fun e w' => ∃ a c, e = .returned (.tuple #[.slice a ys.length c, .int .i64 E]) ∧ StrA w' a ys ∧ Below w.heap.size w w') := by
  have hl : s.data.toList.length ≤ 1000000 := by rw [list_size]; exact hs
  rcases pt_ex s.data.toList with ⟨ys, ho⟩ | ho
  · refine ⟨ys, 0, by have := ho.1.1; rw [ls_len] at this; omega, fun w => ⟨?_, ?_⟩⟩
    · have := parts_yes s.data.toList ys w hl ho
      rwa [str_of] at this
    · have := kparts_yes s.data.toList ys w hl ho
      rwa [str_of] at this
  · refine ⟨[], 2, by simp, fun w => ⟨?_, ?_⟩⟩
    · have := parts_no s.data.toList w hl ho
      rw [str_of] at this
      exact this.mono fun e w' ⟨h1, h2⟩ => ⟨none, 0, h1, .inl rfl, h2⟩
    · have := kparts_no s.data.toList w hl ho
      rw [str_of] at this
      exact this.mono fun e w' ⟨h1, h2⟩ => ⟨none, 0, h1, .inl rfl, h2⟩
set_option maxRecDepth 100000 in
set_option maxHeartbeats 8000000 in
theorem lists_any (b : Option Addr) (cb : Nat) (ts : List ByteArray) (s : ByteArray) (w : World) (hB : StrA w b ts) (hlen : ts.length ≤ 140737488355328) (hsz : ∀ x ∈ ts, x.size ≤ 140737488355328) :
    Calls Try.prog 4 #[.slice b ts.length cb, .string s] w fun e w' => e = .returned (.bool true) ∧ Below w.heap.size w w' := by
  have HAW := Lib.hid awake_any
  have HLG := Lib.hid (fun W h => large_any b cb ts W h hlen hsz)
  have HBX := Lib.hid hB
  obtain ⟨R, E, hP⟩ := list_both b cb ts hsz
  have HP := Lib.hid hP
  obtain ⟨N, hN⟩ : ∃ N, N = ts.length := ⟨_, rfl⟩
  rw [← hN] at HP HLG
  rw [← hN]
  have eR : (R.toList == R.toList) = true := by simp
  clear hP hB hN hlen hsz
  go_enter Try.func4, Try.ntmps4
  go_wp2_with fail
  refine (HAW.out _).mono ?_
  rintro e w2 ⟨rfl, hb2⟩
  have L2 := Lib.hid hb2
  clear hb2 HAW
  go_wp2_with fail
  refine (HLG.out _ (HBX.out.up L2.out)).mono ?_
  rintro e w' ⟨lg, rfl, _, rfl⟩
  cases lg with
  | true =>
    go_wp2
    go_ret
    exact ⟨rfl, L2.out⟩
  | false =>
  by_cases hq3 : 3000 < s.size
  · have hq4 : (3000 : Int) < (s.size : Int) := by omega
    go_wp2
    go_ret
    exact ⟨rfl, L2.out⟩
  have hq4 : ¬ ((3000 : Int) < (s.size : Int)) := by omega
  obtain ⟨ys, F, hy, hR⟩ := parts_both s (by omega)
  have HR := Lib.hid hR
  have HY := Lib.hid hy
  obtain ⟨M, hM⟩ : ∃ M, M = ys.length := ⟨_, rfl⟩
  have HLN : Hid (∀ W a' c' b' d', StrA W a' ys → StrA W b' ys → Calls Try.prog 22 #[.slice a' M c', .slice b' M d'] W fun e w' => e = .returned (.bool true) ∧ ∃ n, w' = W.drewN n) := fun W a' c' b' d' h1 h2 => by
    have := sameA_any a' b' c' d' ys ys W h1 h2 HY.out
    rw [decide_eq_true rfl, ← hM] at this
    exact this
  rw [← hM] at HR
  clear hR hy hM HY HLG
  go_wp2_with fail
  refine (HP.out _ (HBX.out.up L2.out)).1.mono ?_
  rintro e w3 ⟨rfl, hb3⟩
  have L3 := Lib.hid (up2 L2.out hb3)
  clear hb3 L2
  go_wp2_with fail
  refine (HP.out _ (HBX.out.up L3.out)).2.mono ?_
  rintro e w4 ⟨rfl, hb4⟩
  have L4 := Lib.hid (up2 L3.out hb4)
  clear hb4 L3 HP HBX
  go_wp2_with fail
  refine (HR.out _).1.mono ?_
  rintro e w5 ⟨a5, c5, rfl, hn5, hb5⟩
  have L5 := Lib.hid (up2 L4.out hb5)
  have N5 := Lib.hid hn5
  clear hn5 hb5 L4
  go_wp2_with fail
  refine (HR.out _).2.mono ?_
  rintro e w6 ⟨a6, c6, rfl, hn6, hb6⟩
  have L6 := Lib.hid (up2 L5.out hb6)
  have N6 := Lib.hid (N5.out.up hb6)
  have P6 := Lib.hid hn6
  clear hn6 hb6 L5 N5 HR
  go_wp2_with fail
  refine (HLN.out _ _ _ _ _ N6.out P6.out).mono ?_
  rintro e w7 ⟨rfl, q, hw7⟩
  have L7 : Hid (Below w.heap.size w w7) := by rw [hw7]; exact blw L6.out q
  clear hw7
  go_wp2
  go_ret
  exact ⟨rfl, L7.out⟩
end Go.Proofs.Ytmfgdpbnnlmjhaa
