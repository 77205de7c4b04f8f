/- The reference's Lay. -/
import Derived.Test.YtjffcgimdffkoaaGreatDoorRcH
namespace Go.Proofs.YtjffcgimdffkoaaGreatDoor
open Go.RowKit

theorem one_news (W : World) (x : Value) (t : Nat) : ∀ (j : Nat) (u : Value), [x][j]? = some u → (W.alloc (.cells #[x] t)).cell? ((⟨W.heap.size, 0, none⟩ : Addr).add j) = some u := by
  intro j u hj
  match j, hj with
  | 0, hj => simp at hj; subst hj; simp [Addr.add]
theorem one_str (x : ByteArray) : ∀ u ∈ [Value.string x], u.oneCell' = true := by intro u hu; simp at hu; subst hu; rfl
theorem own_low {w : World} {A B e sz n : Nat} {v : Value} {xs : List Value} (h : w.ownsRow B e sz v n xs) (q : A ≤ B) : w.ownsRow A e sz v n xs := by
  obtain ⟨h1, h2⟩ := h
  refine ⟨h1, ?_⟩
  rcases h2 with h2 | ⟨g, cap, cur, a, b, c⟩
  · exact .inl h2
  · exact .inr ⟨g, cap, cur, a, Nat.le_trans q b, c⟩
/-- an append leaves what was there -/
theorem grown_below {w wr w1 : World} {B e sz n : Nat} {v : Value} {xs : List Value} {o : Obj} (h : Below w.heap.size w wr) (hB : w.heap.size ≤ B) (ho : wr.ownsRow B e sz v n xs) (hg : (wr.alloc o).grownBy w1 v.ownBlock) : Below w.heap.size w w1 := by
  have ha := h.alloc (Nat.le_trans (Nat.le_refl _) h.size) o
  refine ⟨hg.os.trans ha.os, hg.tape.trans ha.tape, hg.output.trans ha.output, Nat.le_trans ha.size hg.size, fun k hk => ?_⟩
  have hne : some k ≠ v.ownBlock := fun e => by
    have := ho.lt k e.symm
    omega
  exact (hg.block k (Nat.lt_of_lt_of_le hk ha.size) hne).trans (ha.block k hk)
set_option maxRecDepth 100000 in
set_option maxHeartbeats 1000000 in
theorem rlay_full (s : ByteArray) (m : Bool) (w : World) (hs : 40000 < s.size) (hx : s.size ≤ maxLen) :
    Calls Tryz.prog 49 #[.string s, .bool m] w fun e w' => e = .returned (.tuple #[.slice none 0 0, .int .i64 4]) ∧ w = w' := by
  unfold maxLen at hx
  go_enter Tryz.func49, Tryz.ntmps49
  go_wp2
  go_ret2
  exact ⟨rfl, rfl⟩

theorem front_cells (l : List UInt8) : (#[Value.int .u8 0, .int .u8 ((l.length : Int) / 256), .int .u8 ((l.length : Int) % 256), .int .u8 ((crc l : Int) / 16777216), .int .u8 ((crc l : Int) / 65536 % 256), .int .u8 ((crc l : Int) / 256 % 256), .int .u8 ((crc l : Int) % 256)] : Array Value) = byA (frontL l false) ∨ 40000 < l.length := by
  rcases Nat.lt_or_ge 40000 l.length with h | h
  · exact .inr h
  · refine .inl ?_
    have hc := crc_lt l
    have q : ∀ k : Nat, (((UInt8.ofNat k).toNat : Nat) : Int) = (k : Int) % 256 := fun k => by rw [UInt8.toNat_ofNat']; omega
    unfold frontL byA mk
    generalize crc l = c at hc
    simp only [be, List.map_cons, List.map_nil, q, List.cons_append, List.nil_append, Nat.pow_zero, Nat.div_one, Nat.pow_one]
    have b1 : ((l.length / 256 : Nat) : Int) % 256 = (l.length : Int) / 256 := by omega
    have b3 : ((c / 256 ^ 3 : Nat) : Int) % 256 = (c : Int) / 16777216 := by rw [show 256 ^ 3 = 16777216 by rfl]; omega
    have b4 : ((c / 256 ^ 2 : Nat) : Int) % 256 = (c : Int) / 65536 % 256 := by rw [show 256 ^ 2 = 65536 by rfl]; omega
    have b5 : ((c / 256 : Nat) : Int) % 256 = (c : Int) / 256 % 256 := by omega
    rw [b1, b3, b4, b5]
    rfl
/-- the first blocks, as values -/
def rowV (L : List UInt8) (k : Nat) : List Value := (List.range k).map fun i => Value.string (str (blkL L i))
theorem rowV_next (L : List UInt8) (k : Nat) : rowV L (k + 1) = rowV L k ++ [.string (str (blkL L k))] := by
  unfold rowV; rw [List.range_succ, List.map_append]; rfl
theorem rowV_lay (l : List UInt8) (m : Bool) : (layX l m).map Value.string = rowV (wholeL l m) (nb l.length) := by
  unfold layX rowV; rw [List.map_map]; rfl
/-- bytes 0 behind a record's bytes, so many -/
def padL (l : List UInt8) (m : Bool) (j : Nat) : List UInt8 := frontL l m ++ l ++ List.replicate j 0
theorem pad_len (l : List UInt8) (m : Bool) (j : Nat) : (padL l m j).length = 7 + l.length + j := by simp [padL, front_len]; omega
theorem pad_next (l : List UInt8) (m : Bool) (j : Nat) : str (padL l m j) ++ ⟨#[0]⟩ = str (padL l m (j + 1)) := by
  show str (padL l m j) ++ str [0] = _
  rw [str_app]
  congr 1
  simp [padL, List.replicate_succ']
theorem pad_whole (l : List UInt8) (m : Bool) : padL l m (64 * nb l.length - (7 + l.length)) = wholeL l m := rfl

set_option maxRecDepth 100000 in
set_option maxHeartbeats 4000000 in
theorem rlay_false (s : ByteArray) (w : World) (hs : s.size ≤ 40000) :
    Calls Tryz.prog 49 #[.string s, .bool false] w fun e w' => ∃ v, e = .returned (.tuple #[v, .int .i64 0]) ∧ w'.ownsRow w.heap.size 9 1 v (nb s.size) ((layX s.data.toList false).map Value.string) ∧ Below w.heap.size w w' := by
  obtain ⟨i0, hi, hz0, hz1, hz2⟩ := info_parts zeroS
  have hd : decide (40000 < (s.size : Int)) = false := by simp; omega
  have HK := Lib.hid (rchk_any s w (by unfold maxLen; omega))
  have hc6 := crc_lt s.data.toList
  have hfc : (#[Value.int .u8 0, .int .u8 ((s.size : Int) / 256), .int .u8 ((s.size : Int) % 256), .int .u8 ((crc s.data.toList : Int) / 16777216), .int .u8 ((crc s.data.toList : Int) / 65536 % 256), .int .u8 ((crc s.data.toList : Int) / 256 % 256), .int .u8 ((crc s.data.toList : Int) % 256)] : Array Value) = byA (frontL s.data.toList false) := by
    have := front_cells s.data.toList
    rw [list_size] at this
    exact this.resolve_right (by omega)
  obtain ⟨c, hc⟩ : ∃ c, c = crc s.data.toList := ⟨_, rfl⟩
  rw [← hc] at HK hc6 hfc
  obtain ⟨F, hF⟩ : ∃ F, F = str (frontL s.data.toList false) := ⟨_, rfl⟩
  have sF : F.size = 7 := by rw [hF, str_size, front_len]
  have hcv : ∀ W : World, (convert 46 9 (.slice (some ⟨W.heap.size, 0, none⟩) 7 7)).run Tryz.prog (W.alloc (.cells #[Value.int .u8 0, .int .u8 ((s.size : Int) / 256), .int .u8 ((s.size : Int) % 256), .int .u8 ((c : Int) / 16777216), .int .u8 ((c : Int) / 65536 % 256), .int .u8 ((c : Int) / 256 % 256), .int .u8 ((c : Int) % 256)] 5)) = .ok (.string F) (W.alloc (.cells #[Value.int .u8 0, .int .u8 ((s.size : Int) / 256), .int .u8 ((s.size : Int) % 256), .int .u8 ((c : Int) / 16777216), .int .u8 ((c : Int) / 65536 % 256), .int .u8 ((c : Int) / 256 % 256), .int .u8 ((c : Int) % 256)] 5)) := fun W => by
    rw [hfc]
    have := Lib.run_convert_whole (P := Tryz.prog) _ 46 5 9 Tryz.underlying46 Tryz.underlying5 Tryz.underlying9 W.heap.size 0 _ (Has.fresh W 5 (byA (frontL s.data.toList false))).bytes 7
    rw [str_size, front_len] at this
    rw [hF]
    exact this
  have HC := Lib.hid (And.intro hc hF)
  have hX0 : F ++ s = str (padL s.data.toList false 0) := by
    rw [hF, ← str_of s, str_app, str_list]; simp [padL]
  have q1 : ¬ (9223372036854775807 < F.size + s.size) := by omega
  have HY : Hid (F ++ s = str (padL s.data.toList false 0)) := by
    show F ++ s = str (padL s.data.toList false 0)
    exact hX0
  have hf1 : (1 : Int) ≤ (F.size : Int) + (s.size : Int) := by omega
  have SF := Lib.hid sF
  have hS7 : F.size ≤ 7 := by omega
  obtain ⟨n, hn⟩ : ∃ n, n = nb s.size := ⟨_, rfl⟩
  have n0 := nb_ge s.size
  have n1 : 64 * n < 7 + s.size + 64 := by rw [hn]; unfold nb; omega
  rw [← hn] at n0 ⊢
  have n2 : n ≤ 700 := by omega
  have HN := Lib.hid hn
  clear hc hfc hF sF hX0 hn
  go_enter Tryz.func49, Tryz.ntmps49
  go_wp2_with fail
  refine HK.out.mono ?_
  rintro e w' ⟨rfl, rfl⟩
  go_wp2
  rw [HY.out]
  obtain ⟨W0, hW⟩ : ∃ W0, W0 = w.alloc (.cells #[Value.int .u8 0, .int .u8 ((s.size : Int) / 256), .int .u8 ((s.size : Int) % 256), .int .u8 ((c : Int) / 16777216), .int .u8 ((c : Int) / 65536 % 256), .int .u8 ((c : Int) / 256 % 256), .int .u8 ((c : Int) % 256)] 5) := ⟨_, rfl⟩
  have hB0 := Lib.hid (show Below w.heap.size w W0 by rw [hW]; exact boxed _ _)
  have hz0' : W0.heap.size = w.heap.size + 1 := by rw [hW]; simp
  rw [← hW]
  obtain ⟨W1, hW1⟩ : ∃ W1, W1 = W0.alloc (.cells #[] 9) := ⟨_, rfl⟩
  have hB1 := Lib.hid (show Below w.heap.size w W1 by rw [hW1]; exact up2 hB0.out (boxed _ _))
  have hO1 := Lib.hid (show W1.ownsRow (w.heap.size + 1) 9 1 (.slice (some ⟨w.heap.size + 1, 0, none⟩) 0 0) 0 [] by
    rw [hW1]
    exact ⟨rfl, .inr ⟨w.heap.size + 1, 0, #[], rfl, Nat.le_refl _, by rw [← hz0']; exact heap_alloc_new W0 _, Nat.le_refl _, Nat.zero_le _, rfl, rfl⟩⟩)
  have hs1 : w.heap.size + 1 ≤ W1.heap.size := by rw [hW1]; simp; omega
  rw [← hW1]
  clear hW hW1 hcv hz0' hd
  go_loop [7] (fun y => ∃ (j : Nat) (Y : ByteArray), 7 + s.size + j ≤ 64 * n ∧ Hid (Y = str (padL s.data.toList false j)) ∧ Hid (Y.size = 7 + s.size + j) ∧ y = .string Y) (fun y => 64 * n - Lib.strSize y)
  case atStart => exact ⟨0, _, by omega, rfl, by show _ = _; rw [str_size, pad_len, list_size], rfl⟩
  case round =>
    obtain ⟨j, Y, hj, HYj, HYs, rfl⟩ := hrel
    by_cases hlt : 7 + s.size + j < 64 * n
    · have t0 : ((Y.size : Int) % 64 != 0) = true := by rw [HYs.out]; simp; omega
      have q2 : ¬ (9223372036854775807 < Y.size + 1) := by rw [HYs.out]; omega
      have HN2 : Hid (Y ++ ⟨#[0]⟩ = str (padL s.data.toList false (j + 1))) := by show _ = _; rw [HYj.out, pad_next]
      have HS2 : Hid ((Y ++ ⟨#[0]⟩ : ByteArray).size = 7 + s.size + (j + 1)) := by show _ = _; rw [app_size, HYs.out]; rfl
      have HM : Hid (64 * n - Lib.strSize (.string (Y ++ ⟨#[0]⟩)) < 64 * n - Lib.strSize (.string Y)) := by
        show 64 * n - (Y ++ ⟨#[0]⟩ : ByteArray).size < 64 * n - Y.size
        rw [HS2.out, HYs.out]; omega
      clear HYj
      go_wp2
      go_round
      case rel => exact ⟨j + 1, _, by omega, HN2, HS2, rfl⟩
      case measure => exact HM.out
    · have t0 : ((Y.size : Int) % 64 != 0) = false := by rw [HYs.out]; simp; omega
      have HYW : Hid (Y = str (wholeL s.data.toList false)) := by
        show Y = _
        rw [HYj.out, ← pad_whole, list_size, ← HN.out]
        congr 2; omega
      have hYs : Y.size = 64 * n := by rw [HYs.out]; omega
      have HYN := Lib.hid hYs
      have hY6 : Y.size ≤ 64 * n := by omega
      have hY7 : 64 * n ≤ Y.size := by omega
      clear HYj HYs hYs hlt
      go_wp2_with fail
      go_loopw [8, 9] (fun v vi wr => ∃ i p : Nat, i ≤ n ∧ Hid (p = 64 * i) ∧ vi = .int .i64 (p : Int) ∧ Hid (wr.ownsRow (w.heap.size + 1) 9 1 v i (rowV (wholeL s.data.toList false) i) ∧ Below w.heap.size w wr ∧ w.heap.size + 1 ≤ wr.heap.size)) (fun _ vi _ => 64 * n - (intOf vi).toNat)
      case atStart => exact ⟨0, 0, Nat.zero_le _, rfl, rfl, hO1.out, hB1.out, hs1⟩
      case round =>
        obtain ⟨i, p, hi', HP, rfl, HI⟩ := hrel
        by_cases hlt : i < n
        · have hp1 : p + 64 ≤ Y.size := by have := HP.out; omega
          have hx : Y.extract p (p + 64) = str (blkL (wholeL s.data.toList false) i) := by
            have hp := HP.out
            rw [HYW.out, show p + 64 = (i + 1) * 64 by omega, show p = i * 64 by omega, cut_blk]
          obtain ⟨X, hX⟩ : ∃ X, X = str (blkL (wholeL s.data.toList false) i) := ⟨_, rfl⟩
          rw [← hX] at hx
          have hown := HI.out.1
          have hBs := HI.out.2.2
          have HST : Hid (∀ (v' : Value) (w1 : World), w1.ownsRow (w.heap.size + 1) 9 1 v' (i + 1) (rowV (wholeL s.data.toList false) i ++ [.string X]) → (wr.alloc (.cells #[.string X] 9)).grownBy w1 u8.ownBlock → w1.ownsRow (w.heap.size + 1) 9 1 v' (i + 1) (rowV (wholeL s.data.toList false) (i + 1)) ∧ Below w.heap.size w w1 ∧ w.heap.size + 1 ≤ w1.heap.size) := fun v' w1 g1 g2 => by
            rw [rowV_next, ← hX]
            exact ⟨g1, grown_below HI.out.2.1 (by omega) HI.out.1 g2, Nat.le_trans (by have := HI.out.2.2; simp; omega) g2.size⟩
          clear hX
          have hp2 : p < Y.size := by omega
          go_wp2_with (first | (at_builtin; refine wpList_append_own _ rfl _ _ 49 rfl (w.heap.size + 1) 9 i0 (.string ⟨#[]⟩) 1 16 Tryz.underlying49 hi hz0 hz1 hz2 rfl (by decide) _ _ _ rfl (World.ownsRow.alloc hown _) ⟨wr.heap.size, 0, none⟩ 1 1 [.string X] rfl rfl (one_news _ _ _) (one_str _) ?c3 ?c4 ?c5 ?_))
          case c3 => unfold maxLen; omega
          case c4 => omega
          case c5 => simp; omega
          intro v' w1 hown' hgrow _
          have HNX := Lib.hid (HST.out v' w1 hown' hgrow)
          clear hown' hgrow hown HST HI hBs hx
          go_wp2
          go_roundw
          case rel => exact ⟨i + 1, p + 64, by omega, by show p + 64 = 64 * (i + 1); have := HP.out; omega, by go_num, HNX.out⟩
          case measure => simp [intOf]; omega
        · have hin : i = n := by omega
          have HF : Hid (wr.ownsRow w.heap.size 9 1 u8 n ((layX s.data.toList false).map Value.string)) := by
            have := HI.out.1
            rw [hin] at this
            rw [rowV_lay, list_size, ← HN.out]
            exact own_low this (by omega)
          have HB := Lib.hid HI.out.2.1
          have hp3 : Y.size ≤ p := by have := HP.out; omega
          clear HI hin
          go_wp2
          go_ret2
          exact ⟨_, rfl, HF.out, HB.out⟩
set_option maxRecDepth 100000 in
set_option maxHeartbeats 4000000 in
theorem rlay_true (s : ByteArray) (w : World) (hs : s.size ≤ 40000) :
    Calls Tryz.prog 49 #[.string s, .bool true] w fun e w' => ∃ v, e = .returned (.tuple #[v, .int .i64 0]) ∧ w'.ownsRow w.heap.size 9 1 v (nb s.size) ((layX s.data.toList true).map Value.string) ∧ Below w.heap.size w w' := by
  obtain ⟨i0, hi, hz0, hz1, hz2⟩ := info_parts zeroS
  have hd : decide (40000 < (s.size : Int)) = false := by simp; omega
  have HK := Lib.hid (rchk_any s w (by unfold maxLen; omega))
  have hc6 := crc_lt s.data.toList
  have hfc : (#[Value.int .u8 0, .int .u8 ((s.size : Int) / 256), .int .u8 ((s.size : Int) % 256), .int .u8 ((crc s.data.toList : Int) / 16777216), .int .u8 ((crc s.data.toList : Int) / 65536 % 256), .int .u8 ((crc s.data.toList : Int) / 256 % 256), .int .u8 ((crc s.data.toList : Int) % 256)] : Array Value) = byA (frontL s.data.toList false) := by
    have := front_cells s.data.toList
    rw [list_size] at this
    exact this.resolve_right (by omega)
  obtain ⟨c, hc⟩ : ∃ c, c = crc s.data.toList := ⟨_, rfl⟩
  rw [← hc] at HK hc6 hfc
  obtain ⟨F, hF⟩ : ∃ F, F = str (frontL s.data.toList false) := ⟨_, rfl⟩
  have sF : F.size = 7 := by rw [hF, str_size, front_len]
  have hcv : ∀ W : World, (convert 46 9 (.slice (some ⟨W.heap.size, 0, none⟩) 7 7)).run Tryz.prog (W.alloc (.cells #[Value.int .u8 0, .int .u8 ((s.size : Int) / 256), .int .u8 ((s.size : Int) % 256), .int .u8 ((c : Int) / 16777216), .int .u8 ((c : Int) / 65536 % 256), .int .u8 ((c : Int) / 256 % 256), .int .u8 ((c : Int) % 256)] 5)) = .ok (.string F) (W.alloc (.cells #[Value.int .u8 0, .int .u8 ((s.size : Int) / 256), .int .u8 ((s.size : Int) % 256), .int .u8 ((c : Int) / 16777216), .int .u8 ((c : Int) / 65536 % 256), .int .u8 ((c : Int) / 256 % 256), .int .u8 ((c : Int) % 256)] 5)) := fun W => by
    rw [hfc]
    have := Lib.run_convert_whole (P := Tryz.prog) _ 46 5 9 Tryz.underlying46 Tryz.underlying5 Tryz.underlying9 W.heap.size 0 _ (Has.fresh W 5 (byA (frontL s.data.toList false))).bytes 7
    rw [str_size, front_len] at this
    rw [hF]
    exact this
  have HC := Lib.hid (And.intro hc hF)
  have hX0 : F ++ s = str (padL s.data.toList false 0) := by
    rw [hF, ← str_of s, str_app, str_list]; simp [padL]
  have q1 : ¬ (9223372036854775807 < F.size + s.size) := by omega
  have HY : Hid ((⟨#[1]⟩ : ByteArray) ++ (F ++ s).extract 1 (F.size + s.size) = str (padL s.data.toList true 0)) := by
    show (⟨#[1]⟩ : ByteArray) ++ (F ++ s).extract 1 (F.size + s.size) = str (padL s.data.toList true 0)
    rw [hX0, ext_str, str_list]
    show str [1] ++ _ = _
    rw [str_app]
    congr 1
    have := pad_len s.data.toList false 0
    rw [list_size] at this
    rw [List.take_of_length_le (by rw [List.length_drop, this]; omega)]
    simp [padL, frontL, mk]
  have hf1 : (1 : Int) ≤ (F.size : Int) + (s.size : Int) := by omega
  have SF := Lib.hid sF
  have hS7 : F.size ≤ 7 := by omega
  obtain ⟨n, hn⟩ : ∃ n, n = nb s.size := ⟨_, rfl⟩
  have n0 := nb_ge s.size
  have n1 : 64 * n < 7 + s.size + 64 := by rw [hn]; unfold nb; omega
  rw [← hn] at n0 ⊢
  have n2 : n ≤ 700 := by omega
  have HN := Lib.hid hn
  clear hc hfc hF sF hX0 hn
  go_enter Tryz.func49, Tryz.ntmps49
  go_wp2_with fail
  refine HK.out.mono ?_
  rintro e w' ⟨rfl, rfl⟩
  go_wp2
  rw [HY.out]
  obtain ⟨W0, hW⟩ : ∃ W0, W0 = w.alloc (.cells #[Value.int .u8 0, .int .u8 ((s.size : Int) / 256), .int .u8 ((s.size : Int) % 256), .int .u8 ((c : Int) / 16777216), .int .u8 ((c : Int) / 65536 % 256), .int .u8 ((c : Int) / 256 % 256), .int .u8 ((c : Int) % 256)] 5) := ⟨_, rfl⟩
  have hB0 := Lib.hid (show Below w.heap.size w W0 by rw [hW]; exact boxed _ _)
  have hz0' : W0.heap.size = w.heap.size + 1 := by rw [hW]; simp
  rw [← hW]
  obtain ⟨W1, hW1⟩ : ∃ W1, W1 = W0.alloc (.cells #[] 9) := ⟨_, rfl⟩
  have hB1 := Lib.hid (show Below w.heap.size w W1 by rw [hW1]; exact up2 hB0.out (boxed _ _))
  have hO1 := Lib.hid (show W1.ownsRow (w.heap.size + 1) 9 1 (.slice (some ⟨w.heap.size + 1, 0, none⟩) 0 0) 0 [] by
    rw [hW1]
    exact ⟨rfl, .inr ⟨w.heap.size + 1, 0, #[], rfl, Nat.le_refl _, by rw [← hz0']; exact heap_alloc_new W0 _, Nat.le_refl _, Nat.zero_le _, rfl, rfl⟩⟩)
  have hs1 : w.heap.size + 1 ≤ W1.heap.size := by rw [hW1]; simp; omega
  rw [← hW1]
  clear hW hW1 hcv hz0' hd
  go_loop [7] (fun y => ∃ (j : Nat) (Y : ByteArray), 7 + s.size + j ≤ 64 * n ∧ Hid (Y = str (padL s.data.toList true j)) ∧ Hid (Y.size = 7 + s.size + j) ∧ y = .string Y) (fun y => 64 * n - Lib.strSize y)
  case atStart => exact ⟨0, _, by omega, rfl, by show _ = _; rw [str_size, pad_len, list_size], rfl⟩
  case round =>
    obtain ⟨j, Y, hj, HYj, HYs, rfl⟩ := hrel
    by_cases hlt : 7 + s.size + j < 64 * n
    · have t0 : ((Y.size : Int) % 64 != 0) = true := by rw [HYs.out]; simp; omega
      have q2 : ¬ (9223372036854775807 < Y.size + 1) := by rw [HYs.out]; omega
      have HN2 : Hid (Y ++ ⟨#[0]⟩ = str (padL s.data.toList true (j + 1))) := by show _ = _; rw [HYj.out, pad_next]
      have HS2 : Hid ((Y ++ ⟨#[0]⟩ : ByteArray).size = 7 + s.size + (j + 1)) := by show _ = _; rw [app_size, HYs.out]; rfl
      have HM : Hid (64 * n - Lib.strSize (.string (Y ++ ⟨#[0]⟩)) < 64 * n - Lib.strSize (.string Y)) := by
        show 64 * n - (Y ++ ⟨#[0]⟩ : ByteArray).size < 64 * n - Y.size
        rw [HS2.out, HYs.out]; omega
      clear HYj
      go_wp2
      go_round
      case rel => exact ⟨j + 1, _, by omega, HN2, HS2, rfl⟩
      case measure => exact HM.out
    · have t0 : ((Y.size : Int) % 64 != 0) = false := by rw [HYs.out]; simp; omega
      have HYW : Hid (Y = str (wholeL s.data.toList true)) := by
        show Y = _
        rw [HYj.out, ← pad_whole, list_size, ← HN.out]
        congr 2; omega
      have hYs : Y.size = 64 * n := by rw [HYs.out]; omega
      have HYN := Lib.hid hYs
      have hY6 : Y.size ≤ 64 * n := by omega
      have hY7 : 64 * n ≤ Y.size := by omega
      clear HYj HYs hYs hlt
      go_wp2_with fail
      go_loopw [8, 9] (fun v vi wr => ∃ i p : Nat, i ≤ n ∧ Hid (p = 64 * i) ∧ vi = .int .i64 (p : Int) ∧ Hid (wr.ownsRow (w.heap.size + 1) 9 1 v i (rowV (wholeL s.data.toList true) i) ∧ Below w.heap.size w wr ∧ w.heap.size + 1 ≤ wr.heap.size)) (fun _ vi _ => 64 * n - (intOf vi).toNat)
      case atStart => exact ⟨0, 0, Nat.zero_le _, rfl, rfl, hO1.out, hB1.out, hs1⟩
      case round =>
        obtain ⟨i, p, hi', HP, rfl, HI⟩ := hrel
        by_cases hlt : i < n
        · have hp1 : p + 64 ≤ Y.size := by have := HP.out; omega
          have hx : Y.extract p (p + 64) = str (blkL (wholeL s.data.toList true) i) := by
            have hp := HP.out
            rw [HYW.out, show p + 64 = (i + 1) * 64 by omega, show p = i * 64 by omega, cut_blk]
          obtain ⟨X, hX⟩ : ∃ X, X = str (blkL (wholeL s.data.toList true) i) := ⟨_, rfl⟩
          rw [← hX] at hx
          have hown := HI.out.1
          have hBs := HI.out.2.2
          have HST : Hid (∀ (v' : Value) (w1 : World), w1.ownsRow (w.heap.size + 1) 9 1 v' (i + 1) (rowV (wholeL s.data.toList true) i ++ [.string X]) → (wr.alloc (.cells #[.string X] 9)).grownBy w1 u8.ownBlock → w1.ownsRow (w.heap.size + 1) 9 1 v' (i + 1) (rowV (wholeL s.data.toList true) (i + 1)) ∧ Below w.heap.size w w1 ∧ w.heap.size + 1 ≤ w1.heap.size) := fun v' w1 g1 g2 => by
            rw [rowV_next, ← hX]
            exact ⟨g1, grown_below HI.out.2.1 (by omega) HI.out.1 g2, Nat.le_trans (by have := HI.out.2.2; simp; omega) g2.size⟩
          clear hX
          have hp2 : p < Y.size := by omega
          go_wp2_with (first | (at_builtin; refine wpList_append_own _ rfl _ _ 49 rfl (w.heap.size + 1) 9 i0 (.string ⟨#[]⟩) 1 16 Tryz.underlying49 hi hz0 hz1 hz2 rfl (by decide) _ _ _ rfl (World.ownsRow.alloc hown _) ⟨wr.heap.size, 0, none⟩ 1 1 [.string X] rfl rfl (one_news _ _ _) (one_str _) ?c3 ?c4 ?c5 ?_))
          case c3 => unfold maxLen; omega
          case c4 => omega
          case c5 => simp; omega
          intro v' w1 hown' hgrow _
          have HNX := Lib.hid (HST.out v' w1 hown' hgrow)
          clear hown' hgrow hown HST HI hBs hx
          go_wp2
          go_roundw
          case rel => exact ⟨i + 1, p + 64, by omega, by show p + 64 = 64 * (i + 1); have := HP.out; omega, by go_num, HNX.out⟩
          case measure => simp [intOf]; omega
        · have hin : i = n := by omega
          have HF : Hid (wr.ownsRow w.heap.size 9 1 u8 n ((layX s.data.toList true).map Value.string)) := by
            have := HI.out.1
            rw [hin] at this
            rw [rowV_lay, list_size, ← HN.out]
            exact own_low this (by omega)
          have HB := Lib.hid HI.out.2.1
          have hp3 : Y.size ≤ p := by have := HP.out; omega
          clear HI hin
          go_wp2
          go_ret2
          exact ⟨_, rfl, HF.out, HB.out⟩
theorem rlay_any (s : ByteArray) (m : Bool) (w : World) (hs : s.size ≤ 40000) :
    Calls Tryz.prog 49 #[.string s, .bool m] w fun e w' => ∃ v, e = .returned (.tuple #[v, .int .i64 0]) ∧ w'.ownsRow w.heap.size 9 1 v (nb s.size) ((layX s.data.toList m).map Value.string) ∧ Below w.heap.size w w' := by
  cases m
  · exact rlay_false s w hs
  · exact rlay_true s w hs
/-- an own row of strings, read -/
theorem own_strs {w : World} {B n : Nat} {v : Value} {xs : List ByteArray} (h : w.ownsRow B 9 1 v n (xs.map Value.string)) (hn : 0 < n) : ∃ g c, v = .slice (some ⟨g, 0, none⟩) n c ∧ n ≤ c ∧ B ≤ g ∧ Strs w g 0 xs := by
  have h' := h
  obtain ⟨h1, h2⟩ := h
  rcases h2 with ⟨_, q⟩ | ⟨g, cap, cur, rfl, hB, hh, hc, _⟩
  · omega
  · refine ⟨g, cap, rfl, hc, hB, fun j x hx => ?_⟩
    have hj : j < xs.length := by
      rcases Nat.lt_or_ge j xs.length with q | q
      · exact q
      · rw [List.getElem?_eq_none q] at hx; cases hx
    rw [Nat.zero_add, h'.cellAt j (by rw [← h1, List.length_map]; exact hj), List.getElem?_map, hx]
    rfl
end Go.Proofs.YtjffcgimdffkoaaGreatDoor
