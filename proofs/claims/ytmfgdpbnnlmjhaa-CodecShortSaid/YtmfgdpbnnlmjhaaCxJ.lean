/- awake. -/
import Derived.Test.YtmfgdpbnnlmjhaaCxI
namespace Go.Proofs.Ytmfgdpbnnlmjhaa
open Go.RowKit

theorem nums_two (w : World) (n m : Int) (t : Nat) : NumA (w.alloc (.cells #[.int .i64 n, .int .i64 m] t)) (some ⟨w.heap.size, 0, none⟩) [n, m] := by
  refine .inr ⟨_, _, rfl, fun j x e => ?_⟩
  match j with
  | 0 => simp at e; subst e; simp
  | 1 => simp at e; subst e; simp
  | j + 2 => simp at e
theorem strs_two (w : World) (n m : ByteArray) (t : Nat) : StrA (w.alloc (.cells #[.string n, .string m] t)) (some ⟨w.heap.size, 0, none⟩) [n, m] := by
  refine .inr ⟨_, _, rfl, fun j x e => ?_⟩
  match j with
  | 0 => simp at e; subst e; simp
  | 1 => simp at e; subst e; simp
  | j + 2 => simp at e
theorem f0 : enc (fold 0) = [0] := by rw [enc_small (by decide)]; rfl
theorem fm1 : enc (fold (-1)) = [1] := by rw [enc_small (by decide)]; rfl
theorem f1 : enc (fold 1) = [2] := by rw [enc_small (by decide)]; rfl
theorem f2 : enc (fold 2) = [4] := by rw [enc_small (by decide)]; rfl
theorem f64 : enc (fold 64) = [128, 1] := by rw [show fold 64 = 128 from by decide, enc_more (by decide), enc_small (by decide)]; rfl
theorem am_k {n : Int} (h : -1000 ≤ n ∧ n ≤ 1000) : Am n := by unfold Am; omega
theorem put7 : putL 7 [-1, 64] = [7, 2, 1, 128, 1] := by simp [putL, flat, fm1, f64]
theorem lst2 : lstL (ls [⟨#[97]⟩, ⟨#[]⟩]) = [4, 2, 97, 0] := by
  show enc (fold 2) ++ (enc (fold 1) ++ [97] ++ (enc (fold 0) ++ [] ++ [])) = _
  rw [f2, f1, f0]; rfl
theorem am_two : ∀ x ∈ [(-1 : Int), 64], Am x := by intro x hx; simp at hx; rcases hx with rfl | rfl <;> exact am_k (by omega)
theorem rd_bad : Rd [7, 1, 128, 0] none := by
  have ht : Tk [128, 0] none := tk_miss [128, 0] 1 0 rfl (by simp) (by decide) (.inl ⟨by decide, rfl⟩)
  exact rd_miss (a := 7) (b := 1) (xs := []) (r := [128, 0]) (by decide) ht
set_option maxRecDepth 100000 in
set_option maxHeartbeats 8000000 in
theorem awake_any (w : World) :
    Calls Try.prog 7 #[] w fun e w' => e = .returned (.bool true) ∧ Below w.heap.size w w' := by
  have T1 : Hid (∀ W, Calls Try.prog 12 #[.string ⟨#[128, 1, 120]⟩] W fun e w' => e = .returned (.tuple #[.int .i64 64, .int .i64 2, .int .i64 0]) ∧ W = w') := fun W => by
    have := take_yes [128, 1, 120] 64 W ⟨am_k (by omega), [120], by rw [f64]; rfl⟩
    rw [show nl 64 = 2 from by unfold nl; rw [f64]; rfl] at this
    exact this
  have T2 : Hid (∀ W (b : Nat), NumA W (some ⟨b, 0, none⟩) [-1, 64] → Calls Try.prog 8 #[.agg #[.int .i64 7, .slice (some ⟨b, 0, none⟩) 2 2]] W fun e w' => e = .returned (.tuple #[.string ⟨#[7, 2, 1, 128, 1]⟩, .int .i64 0]) ∧ Below W.heap.size W w') := fun W b h => by
    have := put_ok 7 (some ⟨b, 0, none⟩) 2 [-1, 64] W h am_two ⟨by omega, by omega, by decide⟩
    rw [put7] at this
    exact this
  have T3 : Hid (∀ W, Calls Try.prog 10 #[.string ⟨#[7, 2, 1, 128, 1]⟩] W fun e w' => ∃ a c, e = .returned (.tuple #[.agg #[.int .i64 7, .slice a 2 c], .int .i64 0]) ∧ NumA w' a [-1, 64] ∧ Below W.heap.size W w') := fun W =>
    read_yes [7, 2, 1, 128, 1] 7 [-1, 64] W (by decide) ⟨by decide, by decide, am_two, put7.symm⟩
  have T4 : Hid (∀ W, Calls Try.prog 10 #[.string ⟨#[7, 1, 128, 0]⟩] W fun e w' => e = .returned (.tuple #[.agg #[.int .i64 0, .slice none 0 0], .int .i64 2]) ∧ Below W.heap.size W w') := fun W =>
    read_no [7, 1, 128, 0] W (by decide) rd_bad
  have T5 : Hid (∀ W (b : Nat), StrA W (some ⟨b, 0, none⟩) [⟨#[97]⟩, ⟨#[]⟩] → Calls Try.prog 18 #[.slice (some ⟨b, 0, none⟩) 2 2] W fun e w' => e = .returned (.tuple #[.string ⟨#[4, 2, 97, 0]⟩, .int .i64 0]) ∧ Below W.heap.size W w') := fun W b h => by
    have := list_ok (some ⟨b, 0, none⟩) 2 [⟨#[97]⟩, ⟨#[]⟩] W h ⟨by decide, by decide⟩
    rw [lst2] at this
    exact this
  have T6 : Hid (∀ W, Calls Try.prog 20 #[.string ⟨#[4, 2, 97, 0]⟩] W fun e w' => ∃ a c, e = .returned (.tuple #[.slice a 2 c, .int .i64 0]) ∧ StrA w' a [⟨#[97]⟩, ⟨#[]⟩] ∧ Below W.heap.size W w') := fun W =>
    parts_yes [4, 2, 97, 0] [⟨#[97]⟩, ⟨#[]⟩] W (by decide) ⟨⟨by decide, by decide⟩, lst2.symm⟩
  have T7 : Hid (∀ W, Calls Try.prog 14 #[.int .i64 0] W fun e w' => e = .returned (.string ⟨#[0]⟩) ∧ Below W.heap.size W w') := fun W => by
    have := number_any 0 W (am_k (by omega))
    rw [f0] at this
    exact this
  have T8 : Hid (∀ W, Calls Try.prog 14 #[.int .i64 (-1)] W fun e w' => e = .returned (.string ⟨#[1]⟩) ∧ Below W.heap.size W w') := fun W => by
    have := number_any (-1) W (am_k (by omega))
    rw [fm1] at this
    exact this
  have T9 : Hid (∀ W a c (b : Nat), NumA W a [-1, 64] → NumA W (some ⟨b, 0, none⟩) [-1, 64] → Calls Try.prog 16 #[.slice a 2 c, .slice (some ⟨b, 0, none⟩) 2 2] W fun e w' => e = .returned (.bool true) ∧ ∃ n, w' = W.drewN n) := fun W a c b h1 h2 => by
    have := longs_any a (some ⟨b, 0, none⟩) c 2 [-1, 64] [-1, 64] W h1 h2 (by decide)
    rw [decide_eq_true rfl] at this
    exact this
  have T10 : Hid (∀ W a c (b : Nat), StrA W a [⟨#[97]⟩, ⟨#[]⟩] → StrA W (some ⟨b, 0, none⟩) [⟨#[97]⟩, ⟨#[]⟩] → Calls Try.prog 22 #[.slice a 2 c, .slice (some ⟨b, 0, none⟩) 2 2] W fun e w' => e = .returned (.bool true) ∧ ∃ n, w' = W.drewN n) := fun W a c b h1 h2 => by
    have := sameA_any a (some ⟨b, 0, none⟩) c 2 [⟨#[97]⟩, ⟨#[]⟩] [⟨#[97]⟩, ⟨#[]⟩] W h1 h2 (by decide)
    rw [decide_eq_true rfl] at this
    exact this
  go_enter Try.func7, Try.ntmps7
  go_wp2_with fail
  refine (T1.out _).mono ?_
  rintro e w' ⟨rfl, rfl⟩
  go_wp2_with fail
  refine (T2.out _ _ (nums_two _ _ _ _)).mono ?_
  rintro e w1 ⟨rfl, hb1⟩
  have B1 := Lib.hid (up2 (boxed _ _) hb1)
  clear hb1
  go_wp2_with fail
  refine (T3.out _).mono ?_
  rintro e w2 ⟨a2, c2, rfl, hn2, hb2⟩
  have B2 := Lib.hid (up2 B1.out hb2)
  have N2 := Lib.hid hn2
  clear hn2 hb2 B1
  go_wp2_with fail
  have H3 := Lib.hid (Has.fresh w2 24 #[.int .i64 7, .slice a2 2 c2])
  have B3 := Lib.hid (up2 B2.out (boxed w2 (.cells #[.int .i64 7, .slice a2 2 c2] 24)))
  have N3 := Lib.hid (N2.out.up (boxed w2 (.cells #[.int .i64 7, .slice a2 2 c2] 24)))
  have z3 : w2.heap.size < (w2.alloc (.cells #[.int .i64 7, .slice a2 2 c2] 24)).heap.size := by simp
  obtain ⟨g, hg⟩ : ∃ g, g = w2.heap.size := ⟨_, rfl⟩
  obtain ⟨w3, hw3⟩ : ∃ w3, w3 = w2.alloc (.cells #[.int .i64 7, .slice a2 2 c2] 24) := ⟨_, rfl⟩
  rw [← hw3] at H3 B3 N3 z3 ⊢
  rw [← hg] at H3 z3 ⊢
  clear hw3 hg B2 N2
  refine (T4.out _).mono ?_
  rintro e w4 ⟨rfl, hb4⟩
  have B4 := Lib.hid (up2 B3.out hb4)
  have N4 := Lib.hid (N3.out.up hb4)
  have H4 := Lib.hid (H3.out.up hb4)
  have z4 : g < w4.heap.size := Nat.lt_of_lt_of_le z3 hb4.size
  clear hb4 B3 N3 H3 z3
  go_wp2_with fail
  have B5 := Lib.hid (up2 B4.out (boxed w4 (.cells #[.int .i64 0, .slice none 0 0] 24)))
  have N5 := Lib.hid (N4.out.up (boxed w4 (.cells #[.int .i64 0, .slice none 0 0] 24)))
  have H5 := Lib.hid (H4.out.up (boxed w4 (.cells #[.int .i64 0, .slice none 0 0] 24)))
  have z5 : g < (w4.alloc (.cells #[.int .i64 0, .slice none 0 0] 24)).heap.size := by simp; omega
  have e5 : (w4.alloc (.cells #[.int .i64 0, .slice none 0 0] 24)).heap.size = w4.heap.size + 1 := by simp
  obtain ⟨w5, hw5⟩ : ∃ w5, w5 = w4.alloc (.cells #[.int .i64 0, .slice none 0 0] 24) := ⟨_, rfl⟩
  rw [← hw5] at B5 N5 H5 z5 e5 ⊢
  clear hw5 B4 N4 H4 z4
  go_wp2_with fail
  have S5 := strs_two w5 ⟨#[97]⟩ ⟨#[]⟩ 9
  rw [e5] at S5
  refine (T5.out _ _ S5).mono ?_
  rintro e w6 ⟨rfl, hb6⟩
  have hb6' := up2 (boxed w5 (.cells #[.string ⟨#[97]⟩, .string ⟨#[]⟩] 9)) hb6
  have B6 := Lib.hid (up2 B5.out hb6')
  have N6 := Lib.hid (N5.out.up hb6')
  have H6 := Lib.hid (H5.out.up hb6')
  have z6 : g < w6.heap.size := Nat.lt_of_lt_of_le z5 hb6'.size
  clear hb6 hb6' B5 N5 H5 z5 S5 e5
  go_wp2_with fail
  refine (T6.out _).mono ?_
  rintro e w7 ⟨a7, c7, rfl, hs7, hb7⟩
  have B7 := Lib.hid (up2 B6.out hb7)
  have N7 := Lib.hid (N6.out.up hb7)
  have H7 := Lib.hid (H6.out.up hb7)
  have S7 := Lib.hid hs7
  have z7 : g < w7.heap.size := Nat.lt_of_lt_of_le z6 hb7.size
  clear hb7 hs7 B6 N6 H6 z6
  go_wp2_with fail
  refine (T7.out _).mono ?_
  rintro e w8 ⟨rfl, hb8⟩
  have B8 := Lib.hid (up2 B7.out hb8)
  have N8 := Lib.hid (N7.out.up hb8)
  have H8 := Lib.hid (H7.out.up hb8)
  have S8 := Lib.hid (S7.out.up hb8)
  have z8 : g < w8.heap.size := Nat.lt_of_lt_of_le z7 hb8.size
  clear hb8 B7 N7 H7 S7 z7
  go_wp2_with fail
  refine (T8.out _).mono ?_
  rintro e w9 ⟨rfl, hb9⟩
  have B9 := Lib.hid (up2 B8.out hb9)
  have N9 := Lib.hid (N8.out.up hb9)
  have H9 := Lib.hid (H8.out.up hb9)
  have S9 := Lib.hid (S8.out.up hb9)
  have z9 : g < w9.heap.size := Nat.lt_of_lt_of_le z8 hb9.size
  clear hb9 B8 N8 H8 S8 z8
  have c0 : w9.cell? ⟨g, 0, none⟩ = some (.int .i64 7) := H9.out.cell 0
  have c1 : w9.cell? ⟨g, 1, none⟩ = some (.slice a2 2 c2) := H9.out.cell 1
  go_wp2_with fail
  have bx := boxed w9 (.cells #[.int .i64 (-1), .int .i64 64] 2)
  refine (T9.out _ _ _ _ (N9.out.up bx) (nums_two _ _ _ _)).mono ?_
  rintro e wA ⟨rfl, nA, hwA⟩
  have hbA : Below w9.heap.size w9 wA := by rw [hwA]; exact blw bx nA
  have BA := Lib.hid (up2 B9.out hbA)
  have SA := Lib.hid (S9.out.up hbA)
  clear hbA hwA bx B9 N9 H9 S9 z9 c0 c1
  go_wp2_with fail
  have bx := boxed wA (.cells #[.string ⟨#[97]⟩, .string ⟨#[]⟩] 9)
  refine (T10.out _ _ _ _ (SA.out.up bx) (strs_two _ _ _ _)).mono ?_
  rintro e wB ⟨rfl, nB, hwB⟩
  have hbB : Below wA.heap.size wA wB := by rw [hwB]; exact blw bx nB
  have BB := Lib.hid (up2 BA.out hbB)
  clear hbB hwB bx BA SA
  go_wp2
  go_ret
  exact ⟨rfl, BB.out⟩
end Go.Proofs.Ytmfgdpbnnlmjhaa
