/- A half's record at a block. -/
import Derived.Test.YtjffcgimdffkoaaGreatDoorJnQ
import Derived.Test.YtjffcgimdffkoaaGreatDoorRcF
namespace Go.Proofs.YtjffcgimdffkoaaGreatDoor
open Go.RowKit

/-- the record that begins at block q, in a half up to e: its bytes, how many blocks, or why not -/
def recA (B : Nat → ByteArray) (q e : Nat) : List UInt8 × Nat × Nat :=
  if (headA (bl B q)).2.2 ≠ 0 then ([], 0, 8)
  else if (headA (bl B q)).1 = false then ([], 0, 0)
  else if e < q + nb (headA (bl B q)).2.1 then ([], 0, 8)
  else if (joinA (blks B q (nb (headA (bl B q)).2.1))).2 ≠ 0 then ([], 0, 8)
  else ((joinA (blks B q (nb (headA (bl B q)).2.1))).1, nb (headA (bl B q)).2.1, 0)
def recV (r : List UInt8 × Nat × Nat) : Value := .tuple #[.string (str r.1), .int .i64 (r.2.1 : Int), .int .i64 (r.2.2 : Int)]

set_option maxRecDepth 100000 in
set_option maxHeartbeats 2000000 in
theorem hrec_any (w : World) (p b h n a : Nat) (s : SS) (m : Int) (hA : At w p b s m) (hh : h ≤ 1) (hn : n ≤ 4096) (ha : a < n) (hf : 1 + h * n + n ≤ s.n) (hT : Tb w) :
    Calls Tryz.prog 48 #[.agg (hv p h n), .int .i64 (a : Int)] w fun r w' => r = .returned (recV (recA s.B (1 + h * n + a) (1 + h * n + n))) ∧ Below w.heap.size w w' := by
  obtain ⟨x, hx⟩ : ∃ x, x = s.B (1 + h * n + a) := ⟨_, rfl⟩
  have HR : Hid (∀ W : World, Below w.heap.size w W → Calls Tryz.prog 54 #[.agg #[.pointer (some ⟨p, 0, none⟩), .int .i64 (h : Int), .int .i64 (n : Int)], .int .i64 (a : Int), .int .i64 1] W fun e w' =>
      ∃ g, e = .returned (.slice (some ⟨g, 0, none⟩) 1 1) ∧ w'.cell? ⟨g, 0, none⟩ = some (.string x) ∧ Below W.heap.size W w') := fun W q =>
    (hread_one W p b h n a s m (hA.up q) hh hn (by omega) x hx (by omega)).mono fun _ _ ⟨e, c, k⟩ => ⟨_, e, c, k⟩
  obtain ⟨mk', kk, ee, hhd⟩ : ∃ mk' kk ee, headA x.data.toList = (mk', kk, ee) := ⟨_, _, _, rfl⟩
  have hhd' : headA (bl s.B (1 + h * n + a)) = (mk', kk, ee) := by unfold bl; rw [← hx]; exact hhd
  have hkk : kk ≤ 40000 := by have := headA_le x.data.toList; rw [hhd] at this; exact this
  have HH : Hid (∀ W : World, Calls Tryz.prog 53 #[.string x] W fun e w' => e = .returned (.tuple #[.bool mk', .int .i64 (kk : Int), .int .i64 (ee : Int)]) ∧ W = w') := fun W => by
    have := head_any x W
    rw [hhd] at this
    exact this
  obtain ⟨q, hq⟩ : ∃ q, q = nb kk := ⟨_, rfl⟩
  have hq0 : q ≤ 626 := by rw [hq]; exact nb_le hkk
  have HB : Hid (∀ W : World, Calls Tryz.prog 36 #[.int .i64 (kk : Int)] W fun e w' => e = .returned (.int .i64 (q : Int)) ∧ W = w') := fun W => by
    have := blk_any kk W
    rwa [nbI_is hkk, ← hq] at this
  have HRK : Hid (a + q ≤ n → ∀ W : World, Below w.heap.size w W → Calls Tryz.prog 54 #[.agg #[.pointer (some ⟨p, 0, none⟩), .int .i64 (h : Int), .int .i64 (n : Int)], .int .i64 (a : Int), .int .i64 (q : Int)] W fun e w' =>
      ∃ g, e = .returned (.slice (some ⟨g, 0, none⟩) q q) ∧ Strs w' g 0 (rowB s (1 + h * n + a) q) ∧ Below W.heap.size W w') := fun hfit W r =>
    (hread_any W p b h n a q s m (hA.up r) hh hn (by omega) (by omega) (by omega)).mono fun _ _ ⟨e, g, k⟩ => ⟨_, e, g.strs, k⟩
  obtain ⟨r1, r2, hjn⟩ : ∃ r1 r2, joinA (blks s.B (1 + h * n + a) q) = (r1, r2) := ⟨_, _, rfl⟩
  have HJ : Hid (∀ (W : World) (g : Nat), Below w.heap.size w W → Strs W g 0 (rowB s (1 + h * n + a) q) → Calls Tryz.prog 55 #[.slice (some ⟨g, 0, none⟩) q q] W fun r w' => r = .returned (.tuple #[.string (str r1), .int .i64 (r2 : Int)]) ∧ Below W.heap.size W w') := fun W g r hs => by
    have := join_any g 0 q (rowB s (1 + h * n + a) q) W hs (by rw [rowB_len]; omega) (by rw [rowB_len]; exact Nat.le_refl _) (hT.up r)
    rw [rowB_len, rowB_rows, hjn] at this
    exact this
  have HX0 := Lib.hid (And.intro hhd' (And.intro hq hjn))
  have hb0 := Lib.hid (boxed w (.cells (hv p h n) 60))
  have B3 := (Has.fresh w 60 (hv p h n))
  have HBX := Lib.hid B3
  clear hA hT hx hhd hhd' hq hjn B3 hf hh
  by_cases hee : ee = 0
  · have hee0 : ((ee : Int) != 0) = false := by rw [hee]; rfl
    by_cases hmk : mk' = true
    · by_cases hfit : a + q ≤ n
      · have hcmp : ¬ ((n : Int) < (a : Int) + (q : Int)) := by omega
        have HRK2 := Lib.hid (HRK.out hfit)
        by_cases hr2 : r2 = 0
        · have hr20 : ((r2 : Int) != 0) = false := by rw [hr2]; rfl
          have hrec : Hid (recA s.B (1 + h * n + a) (1 + h * n + n) = (r1, q, 0)) := by
            show recA _ _ _ = _
            unfold recA
            rw [HX0.out.1]
            simp only
            rw [if_neg (by simp [hee]), if_neg (by simp [hmk]), if_neg (by rw [← HX0.out.2.1]; omega), ← HX0.out.2.1, HX0.out.2.2]
            simp only
            rw [if_neg (by simp [hr2])]
          rw [hmk] at HH
          clear hee hmk hfit HRK HX0 hr2
          unfold hv
          go_enter Tryz.func48, Tryz.ntmps48
          go_wp2_with fail
          refine (HR.out _ hb0.out).mono ?_
          rintro e w1 ⟨g, rfl, d0, hb1⟩
          have hz1 : g < w1.heap.size := World.block_lt_of_cell? _ _ d0
          have X1 := Lib.hid (HBX.out.up hb1)
          have B3 := X1.out.box3
          unfold Box3 at B3
          obtain ⟨c0, c1, c2⟩ := B3
          have BB := Lib.hid (lots hb0.out hb1)
          clear hb1
          go_wp2_with fail
          refine (HH.out _).mono ?_
          rintro e w' ⟨rfl, rfl⟩
          go_wp2_with fail
          refine (HB.out _).mono ?_
          rintro e w' ⟨rfl, rfl⟩
          go_wp2_with fail
          refine (HRK2.out _ BB.out).mono ?_
          rintro e w2 ⟨g2, rfl, hs2, hb2⟩
          have BB2 := Lib.hid (lots BB.out hb2)
          have S2 := Lib.hid hs2
          clear hs2 hb2
          go_wp2_with fail
          refine (HJ.out _ _ BB2.out S2.out).mono ?_
          rintro e w3 ⟨rfl, hb3⟩
          have BB3 := Lib.hid (lots BB2.out hb3)
          clear hb3
          go_wp2
          refine bodyPost_ret (v := recV (r1, q, 0)) (by simp [results, Tryz.results48, go_sem, recV, str]) rfl ⟨by rw [hrec.out], BB3.out⟩

        · have hr20 : ((r2 : Int) != 0) = true := by simp; omega
          have hrec : Hid (recA s.B (1 + h * n + a) (1 + h * n + n) = ([], 0, 8)) := by
            show recA _ _ _ = _
            unfold recA
            rw [HX0.out.1]
            simp only
            rw [if_neg (by simp [hee]), if_neg (by simp [hmk]), if_neg (by rw [← HX0.out.2.1]; omega), ← HX0.out.2.1, HX0.out.2.2]
            simp only
            rw [if_pos (by simp [hr2])]
          rw [hmk] at HH
          clear hee hmk hfit HRK HX0 hr2
          unfold hv
          go_enter Tryz.func48, Tryz.ntmps48
          go_wp2_with fail
          refine (HR.out _ hb0.out).mono ?_
          rintro e w1 ⟨g, rfl, d0, hb1⟩
          have hz1 : g < w1.heap.size := World.block_lt_of_cell? _ _ d0
          have X1 := Lib.hid (HBX.out.up hb1)
          have B3 := X1.out.box3
          unfold Box3 at B3
          obtain ⟨c0, c1, c2⟩ := B3
          have BB := Lib.hid (lots hb0.out hb1)
          clear hb1
          go_wp2_with fail
          refine (HH.out _).mono ?_
          rintro e w' ⟨rfl, rfl⟩
          go_wp2_with fail
          refine (HB.out _).mono ?_
          rintro e w' ⟨rfl, rfl⟩
          go_wp2_with fail
          refine (HRK2.out _ BB.out).mono ?_
          rintro e w2 ⟨g2, rfl, hs2, hb2⟩
          have BB2 := Lib.hid (lots BB.out hb2)
          have S2 := Lib.hid hs2
          clear hs2 hb2
          go_wp2_with fail
          refine (HJ.out _ _ BB2.out S2.out).mono ?_
          rintro e w3 ⟨rfl, hb3⟩
          have BB3 := Lib.hid (lots BB2.out hb3)
          clear hb3
          go_wp2
          refine bodyPost_ret (v := recV ([], 0, 8)) (by simp [results, Tryz.results48, go_sem, recV, str]) rfl ⟨by rw [hrec.out], BB3.out⟩

      · have hcmp : (n : Int) < (a : Int) + (q : Int) := by omega
        have hrec : Hid (recA s.B (1 + h * n + a) (1 + h * n + n) = ([], 0, 8)) := by
          show recA _ _ _ = _
          unfold recA
          rw [HX0.out.1]
          simp only
          rw [if_neg (by simp [hee]), if_neg (by simp [hmk]), if_pos (by rw [← HX0.out.2.1]; omega)]
        rw [hmk] at HH
        clear hee hmk hfit HRK HJ HX0
        unfold hv
        go_enter Tryz.func48, Tryz.ntmps48
        go_wp2_with fail
        refine (HR.out _ hb0.out).mono ?_
        rintro e w1 ⟨g, rfl, d0, hb1⟩
        have hz1 : g < w1.heap.size := World.block_lt_of_cell? _ _ d0
        have X1 := Lib.hid (HBX.out.up hb1)
        have B3 := X1.out.box3
        unfold Box3 at B3
        obtain ⟨c0, c1, c2⟩ := B3
        have BB := Lib.hid (lots hb0.out hb1)
        clear hb1
        go_wp2_with fail
        refine (HH.out _).mono ?_
        rintro e w' ⟨rfl, rfl⟩
        go_wp2_with fail
        refine (HB.out _).mono ?_
        rintro e w' ⟨rfl, rfl⟩
        go_wp2
        refine bodyPost_ret (v := recV ([], 0, 8)) (by simp [results, Tryz.results48, go_sem, recV, str]) rfl ⟨by rw [hrec.out], BB.out⟩
    · have hmk0 : mk' = false := by simpa using hmk
      have hrec : Hid (recA s.B (1 + h * n + a) (1 + h * n + n) = ([], 0, 0)) := by
        show recA _ _ _ = _
        unfold recA
        rw [HX0.out.1]
        simp only
        rw [if_neg (by simp [hee]), if_pos hmk0]
      rw [hmk0] at HH
      clear hee hmk hmk0 HRK HJ HX0
      unfold hv
      go_enter Tryz.func48, Tryz.ntmps48
      go_wp2_with fail
      refine (HR.out _ hb0.out).mono ?_
      rintro e w1 ⟨g, rfl, d0, hb1⟩
      have hz1 : g < w1.heap.size := World.block_lt_of_cell? _ _ d0
      have X1 := Lib.hid (HBX.out.up hb1)
      have B3 := X1.out.box3
      unfold Box3 at B3
      obtain ⟨c0, c1, c2⟩ := B3
      have BB := Lib.hid (lots hb0.out hb1)
      clear hb1
      go_wp2_with fail
      refine (HH.out _).mono ?_
      rintro e w' ⟨rfl, rfl⟩
      go_wp2
      refine bodyPost_ret (v := recV ([], 0, 0)) (by simp [results, Tryz.results48, go_sem, recV, str]) rfl ⟨by rw [hrec.out], BB.out⟩
  · have hee0 : ((ee : Int) != 0) = true := by simp; omega
    have hrec : Hid (recA s.B (1 + h * n + a) (1 + h * n + n) = ([], 0, 8)) := by
      show recA _ _ _ = _
      unfold recA
      rw [HX0.out.1]
      simp only
      rw [if_pos (by simpa using hee)]
    clear hee HRK HJ HX0
    unfold hv
    go_enter Tryz.func48, Tryz.ntmps48
    go_wp2_with fail
    refine (HR.out _ hb0.out).mono ?_
    rintro e w1 ⟨g, rfl, d0, hb1⟩
    have hz1 : g < w1.heap.size := World.block_lt_of_cell? _ _ d0
    have X1 := Lib.hid (HBX.out.up hb1)
    have B3 := X1.out.box3
    unfold Box3 at B3
    obtain ⟨c0, c1, c2⟩ := B3
    have BB := Lib.hid (lots hb0.out hb1)
    clear hb1
    go_wp2_with fail
    refine (HH.out _).mono ?_
    rintro e w' ⟨rfl, rfl⟩
    go_wp2
    refine bodyPost_ret (v := recV ([], 0, 8)) (by simp [results, Tryz.results48, go_sem, recV, str]) rfl ⟨by rw [hrec.out], BB.out⟩
end Go.Proofs.YtjffcgimdffkoaaGreatDoor
