/- RecordBack: the core. -/
import Derived.Test.YtmbnofhieminkaaDoorRcK
namespace Go.Proofs.YtmbnofhieminkaaDoor
open Go.RowKit

theorem blk_first (l : List UInt8) (m : Bool) : blkL (wholeL l m) 0 = [mk m] ++ ((wholeL l true).drop 1).take 63 := by
  unfold blkL
  rw [Nat.mul_zero, List.drop_zero, whole_cut, whole_cut]
  rfl
theorem blk_next (l : List UInt8) (m : Bool) (i : Nat) : blkL (wholeL l m) (i + 1) = blkL (wholeL l true) (i + 1) := by
  unfold blkL
  rw [whole_cut, whole_cut, show 64 * (i + 1) = (64 * i + 63) + 1 by omega]
  rfl
theorem lay_cons (l : List UInt8) (m : Bool) : layX l m = str (blkL (wholeL l m) 0) :: (layX l true).drop 1 := by
  unfold layX
  obtain ⟨n, hn⟩ : ∃ n, nb l.length = n + 1 := ⟨nb l.length - 1, by have := nb_pos l.length; omega⟩
  rw [hn, List.range_succ_eq_map, List.map_cons, List.map_cons, List.drop_one, List.tail_cons, List.map_map, List.map_map]
  congr 1

theorem back_large (s : ByteArray) (w : World) (hs : 3000 < s.size) (hm : s.size ≤ maxLen) (hT : Tb w) :
    Calls Tryd.prog 4 #[.string s] w fun e w' => e = .returned (.bool true) ∧ Below w.heap.size w w' := by
  have HA := Lib.hid (awake_any w hT)
  unfold maxLen at hm
  clear hT
  go_enter Tryd.func4, Tryd.ntmps4
  go_wp2_with fail
  refine HA.out.mono ?_
  rintro e w1 ⟨rfl, hb1⟩
  have H1 := Lib.hid hb1
  clear hb1
  go_wp2
  go_ret
  exact ⟨rfl, H1.out⟩

set_option maxHeartbeats 8000000 in
theorem back_small (s : ByteArray) (w : World) (hs : s.size ≤ 3000) (hT : Tb w) :
    Calls Tryd.prog 4 #[.string s] w fun e w' => e = .returned (.bool true) ∧ Below w.heap.size w w' := by
  have HA := Lib.hid (awake_any w hT)
  have HT := Lib.hid hT
  clear hT
  obtain ⟨n, hn⟩ : ∃ n, n = nb s.size := ⟨_, rfl⟩
  have hn0 : 0 < n := by rw [hn]; exact nb_pos _
  have hn7 : n ≤ 100 := by rw [hn]; unfold nb; omega
  have HL : Hid (∀ (W : World) (m : Bool), Tb W → Calls Tryd.prog 8 #[.string s, .bool m] W fun e w' => e = .returned (.tuple #[.slice (some ⟨W.heap.size, 0, none⟩) n n, .int .i64 0]) ∧ Has w' W.heap.size 9 (rowA (layX s.data.toList m)) ∧ Below W.heap.size W w') := fun W m q => by
    have := lay_any s m W (by omega) q
    rwa [← hn] at this
  have HB : Hid (∀ W : World, Calls Tryd.prog 17 #[.int .i64 (s.size : Int)] W fun e w' => e = .returned (.int .i64 (n : Int)) ∧ W = w') := fun W => by
    have := blk_any s.size W
    rwa [show nbI s.size = (n : Int) by rw [hn]; unfold nbI nb; rw [if_neg (by omega)]; omega] at this
  have hlen : ∀ m, (layX s.data.toList m).length = n := fun m => by rw [lay_len, list_size, hn]
  have HJ : Hid (∀ (W : World) (b : Nat) (m : Bool), Strs W b 0 (layX s.data.toList m) → Tb W → Calls Tryd.prog 10 #[.slice (some ⟨b, 0, none⟩) n n] W fun e w' => e = .returned (joinV (joinA (layL s.data.toList m))) ∧ Below W.heap.size W w') := fun W b m q r => by
    have := join_any b 0 n (layX s.data.toList m) W q (by rw [hlen]; omega) (by rw [hlen]; omega) r
    rwa [hlen, rows_lay] at this
  have j1 : joinV (joinA (layL s.data.toList true)) = .tuple #[.string s, .int .i64 0] := by
    rw [join_laid (by rw [list_size]; omega)]
    show Value.tuple #[.string (str s.data.toList), .int .i64 0] = _
    rw [str_of]
  have j2 : joinV (joinA (layL s.data.toList false)) = .tuple #[.string ⟨#[]⟩, .int .i64 2] := by rw [join_idle_laid]; rfl
  obtain ⟨x, hx⟩ : ∃ x, x = str (blkL (wholeL s.data.toList true) 0) := ⟨_, rfl⟩
  obtain ⟨y, hy⟩ : ∃ y, y = str (blkL (wholeL s.data.toList false) 0) := ⟨_, rfl⟩
  obtain ⟨zs, hz⟩ : ∃ zs, zs = (layX s.data.toList true).drop 1 := ⟨_, rfl⟩
  have ex : layX s.data.toList true = x :: zs := by rw [hx, hz]; exact lay_cons _ _
  have ey : layX s.data.toList false = y :: zs := by rw [hy, hz]; exact lay_cons _ _
  have hzl : zs.length = n - 1 := by have := hlen true; rw [ex, List.length_cons] at this; omega
  have bl : ∀ m, (blkL (wholeL s.data.toList m) 0).length = 64 := fun m => blk_len (whole_len _ _) (by rw [list_size, ← hn]; omega)
  have sx : x.size = 64 := by rw [hx, str_size, bl]
  have sy : y.size = 64 := by rw [hy, str_size, bl]
  have ex1 : ((x.extract 0 1).toList == [1]) = true := by rw [ext_toList, hx, str_list, blk_first]; rfl
  have ey1 : ((y.extract 0 1).toList == [0]) = true := by rw [ext_toList, hy, str_list, blk_first]; rfl
  have exy : x.extract 1 x.size = y.extract 1 y.size := by
    rw [ext_str, ext_str, hx, hy, str_list, str_list, str_size, str_size, bl, bl, blk_first, blk_first s.data.toList false]
    rfl
  have sx1 : 1 ≤ x.size := by omega
  have sy1 : 1 ≤ y.size := by omega
  have HS : Hid (∀ (W : World) (b1 b2 : Nat), Strs W b1 0 (layX s.data.toList true) → Strs W b2 0 (layX s.data.toList false) → Calls Tryd.prog 16 #[.slice (some ⟨b1, 1, none⟩) (n - 1) (n - 1), .slice (some ⟨b2, 1, none⟩) (n - 1) (n - 1)] W fun e w' => e = .returned (.bool true) ∧ ∃ k, w' = W.drewN k) := fun W b1 b2 q r => by
    have q1 := q.drop 1
    have r1 := r.drop 1
    rw [ex, List.drop_one, List.tail_cons, Nat.zero_add] at q1
    rw [ey, List.drop_one, List.tail_cons, Nat.zero_add] at r1
    have := same_any b1 1 (n - 1) b2 1 (n - 1) zs zs W q1 r1 rfl (by omega)
    rwa [hzl, decide_eq_true rfl] at this
  have HX := Lib.hid (And.intro ex ey)
  clear hn hlen hx hy hz ex ey hzl bl sx sy
  go_enter Tryd.func4, Tryd.ntmps4
  go_wp2_with fail
  refine HA.out.mono ?_
  rintro e w1 ⟨rfl, hb1⟩
  have B1 := Lib.hid hb1
  clear hb1
  go_wp2_with fail
  refine (HL.out w1 true (HT.out.up B1.out)).mono ?_
  rintro e w2 ⟨rfl, hh2, hb2⟩
  obtain ⟨b1, hb1e⟩ : ∃ b1, b1 = w1.heap.size := ⟨_, rfl⟩
  rw [← hb1e]
  rw [← hb1e] at hh2
  have B2 := Lib.hid (up2 B1.out hb2)
  have H1 := Lib.hid hh2
  clear hb2 hh2 hb1e
  go_wp2_with fail
  refine (HL.out w2 false (HT.out.up B2.out)).mono ?_
  rintro e w3 ⟨rfl, hh3, hb3⟩
  obtain ⟨b2, hb2e⟩ : ∃ b2, b2 = w2.heap.size := ⟨_, rfl⟩
  rw [← hb2e]
  rw [← hb2e] at hh3
  have S3 := Lib.hid (And.intro (H1.out.up hb3).strs hh3.strs)
  have B3 := Lib.hid (up2 B2.out hb3)
  clear hb3 hh3 hb2e
  go_wp2_with fail
  refine (HB.out w3).mono ?_
  rintro e w' ⟨rfl, rfl⟩
  go_wp2_with fail
  refine (HJ.out w3 b1 true S3.out.1 (HT.out.up B3.out)).mono ?_
  rintro e w4 ⟨rfl, hb4⟩
  rw [j1]
  have S4 := Lib.hid (And.intro (S3.out.1.up hb4) (S3.out.2.up hb4))
  have B4 := Lib.hid (up2 B3.out hb4)
  clear hb4
  go_wp2_with fail
  refine (HJ.out w4 b2 false S4.out.2 (HT.out.up B4.out)).mono ?_
  rintro e w5 ⟨rfl, hb5⟩
  rw [j2]
  have S5 := Lib.hid (And.intro (S4.out.1.up hb5) (S4.out.2.up hb5))
  have B5 := Lib.hid (up2 B4.out hb5)
  clear hb5 j1 j2
  have c1 : w5.cell? ⟨b1, 0, none⟩ = some (.string x) := by have := S5.out.1 0 x; rw [HX.out.1] at this; exact this rfl
  have c2 : w5.cell? ⟨b2, 0, none⟩ = some (.string y) := by have := S5.out.2 0 y; rw [HX.out.2] at this; exact this rfl
  by_cases h1 : n = 1
  · subst h1
    have HS0 : Hid (∀ (W : World), Calls Tryd.prog 16 #[.slice (some ⟨b1, 0, none⟩) 0 0, .slice (some ⟨b2, 0, none⟩) 0 0] W fun e w' => e = .returned (.bool true) ∧ ∃ k, w' = W.drewN k) := fun W => same_any b1 0 0 b2 0 0 [] [] W (fun j x e => by simp at e) (fun j x e => by simp at e) rfl (by simp)
    clear HS
    go_wp2_with fail
    go_quiet (first | (go_at_call 16; exact Calls.quiet_of (HS0.out _)))
    go_wp2
    go_ret
    exact ⟨rfl, blw B5.out nq⟩
  · have h1' : ¬ (n = 1) := h1
    go_wp2_with fail
    go_quiet (first | (go_at_call 16; exact Calls.quiet_of (HS.out _ b1 b2 (S5.out.1.drewN _) (S5.out.2.drewN _))))
    go_wp2
    go_ret
    exact ⟨rfl, blw B5.out nq⟩
theorem back_any (s : ByteArray) (w : World) (hm : s.size ≤ maxLen) (hT : Tb w) :
    Calls Tryd.prog 4 #[.string s] w fun e w' => e = .returned (.bool true) ∧ Below w.heap.size w w' := by
  by_cases h : s.size ≤ 3000
  · exact back_small s w h hT
  · exact back_large s w (by omega) hm hT
end Go.Proofs.YtmbnofhieminkaaDoor
