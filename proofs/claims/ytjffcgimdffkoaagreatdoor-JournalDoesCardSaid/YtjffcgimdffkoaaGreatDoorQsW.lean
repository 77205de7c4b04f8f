/- The reference's Write. -/
import Derived.Test.YtjffcgimdffkoaaGreatDoorQs
namespace Go.Proofs.YtjffcgimdffkoaaGreatDoor
open Go.RowKit

theorem tld_put {cs : Array Value} {n k : Nat} {B : Nat → ByteArray} {x : ByteArray} (h : Tld cs n B) (hk : k < n) : Tld (cs.setIfInBounds k (.string x)) n (upd B k x) := by
  intro i hi
  have hs : k < cs.size := (Array.getElem?_eq_some_iff.1 (h k hk)).1
  rw [Array.getElem?_setIfInBounds]
  by_cases e : k = i
  · subst e
    rw [if_pos rfl, if_pos hs, upd_at]
  · rw [if_neg e, upd_far _ _ (Ne.symm e)]
    exact h i hi

set_option maxRecDepth 100000 in
set_option maxHeartbeats 400000 in
theorem rwrite_arg (w : World) (q r : Nat) (s : SS) (a : Int) (x : ByteArray) (h : Rt w q r s) (z : ¬ inR s a x) :
    Calls Tryz.prog 18 #[.pointer (some ⟨q, 0, none⟩), .int .i64 a, .string x] w fun e w' => e = .returned (.int .i64 1) ∧ w = w' := by
  obtain ⟨cap, T, hh, ht⟩ := h.head
  have c0 : w.cell? ⟨q, 0, none⟩ = some (.slice (some ⟨r, 0, none⟩) s.n (s.n + cap)) := hh.cell 0
  clear h hh ht
  by_cases h0 : 0 ≤ a
  · by_cases h1 : a < s.n
    · have hy : ((x.size : Int) != 64) = true := by
        have : x.size ≠ 64 := fun e => z ⟨h0, h1, e⟩
        simp; omega
      clear z
      go_enter Tryz.func18, Tryz.ntmps18
      go_wp2
      go_ret
      exact ⟨rfl, rfl⟩
    · have h1' : (s.n : Int) ≤ a := by omega
      clear z h1
      go_enter Tryz.func18, Tryz.ntmps18
      go_wp2
      go_ret
      exact ⟨rfl, rfl⟩
  · have h1 : a < 0 := by omega
    clear z h0
    go_enter Tryz.func18, Tryz.ntmps18
    go_wp2
    go_ret
    exact ⟨rfl, rfl⟩
set_option maxRecDepth 100000 in
set_option maxHeartbeats 400000 in
theorem rwrite_down (w : World) (q r : Nat) (s : SS) (a : Int) (x : ByteArray) (h : Rt w q r s) (z : inR s a x) (hp : s.pw = false) :
    Calls Tryz.prog 18 #[.pointer (some ⟨q, 0, none⟩), .int .i64 a, .string x] w fun e w' => e = .returned (.int .i64 9) ∧ w = w' := by
  obtain ⟨cap, T, hh, ht⟩ := h.head
  have c0 : w.cell? ⟨q, 0, none⟩ = some (.slice (some ⟨r, 0, none⟩) s.n (s.n + cap)) := hh.cell 0
  have c3 : w.cell? ⟨q, 3, none⟩ = some (.bool (!s.pw)) := hh.cell 3
  rw [hp] at c3
  obtain ⟨h0, h1, h2⟩ := z
  have hx : ((x.size : Int) == 64) = true := by simp; omega
  have hy : ((x.size : Int) != 64) = false := by simp; omega
  clear h hh ht hp h2
  go_enter Tryz.func18, Tryz.ntmps18
  go_wp2
  go_ret
  exact ⟨rfl, rfl⟩
set_option maxRecDepth 100000 in
set_option maxHeartbeats 400000 in
theorem rwrite_ok (w : World) (q r : Nat) (s : SS) (a : Int) (x : ByteArray) (m : Int) (h : Rt w q r s) (hF : Fine s m) (hm : m ≤ 1000000) (z : inR s a x) (hp : s.pw = true) (hd : ¬ (s.ld = true ∧ s.fw = 0)) :
    Calls Tryz.prog 18 #[.pointer (some ⟨q, 0, none⟩), .int .i64 a, .string x] w fun e w' => e = .returned (.int .i64 0) ∧ Rt w' q r { s with B := upd s.B a.toNat x, fw := if s.ld = true then s.fw - 1 else s.fw, mn := s.mn + 1 } ∧ But q r w w' := by
  have HR := Lib.hid h
  obtain ⟨cap, T, hh, ht⟩ := h.head
  obtain ⟨cs, hc, hl⟩ := h.row
  have hne : q ≠ r := h.ne
  obtain ⟨h0, h1, h2⟩ := z
  have ha : a.toNat < s.n := by omega
  have c0 : w.cell? ⟨q, 0, none⟩ = some (.slice (some ⟨r, 0, none⟩) s.n (s.n + cap)) := hh.cell 0
  have c1 : w.cell? ⟨q, 1, none⟩ = some (.int .i64 (if s.ld = true then s.fw else -1)) := hh.cell 1
  have c3 : w.cell? ⟨q, 3, none⟩ = some (.bool (!s.pw)) := hh.cell 3
  have c4 : w.cell? ⟨q, 4, none⟩ = some (.int .i64 s.mn) := hh.cell 4
  rw [hp] at c3
  have d0 : w.cell? ⟨r, a.toNat, none⟩ = some (.string (s.B a.toNat)) := by rw [hc.cell]; exact hl _ ha
  have f1 := hh.free 1
  have f4 := hh.free 4
  have g0 := hc.free a.toNat
  have hx : ((x.size : Int) == 64) = true := by simp; omega
  have hy : ((x.size : Int) != 64) = false := by simp; omega
  have m0 := hF.mn.1
  have m1 : s.mn ≤ 1000000 := by have := hF.mn.2; omega
  have v0 := hF.fw.1
  have v1 := hF.fw.2
  have hcp := hc.put a.toNat (.string x)
  have hln := tld_put (x := x) hl ha
  cases hld : s.ld
  · rw [hld] at c1
    simp at c1
    have HH := Lib.hid hh
    have HC := Lib.hid hc
    have HL := Lib.hid hl
    have HT := Lib.hid ht
    have HD := Lib.hid hld
    have HA := Lib.hid ha
    have HN := Lib.hid hne
    have hb : decide (q = r) = false := by simpa using hne
    clear h hh ht hc hl hp h2 hF hd hm hld ha hcp hln
    go_enter Tryz.func18, Tryz.ntmps18
    go_wp2
    go_ret
    have K : But q r w ((w.setCell ⟨r, a.toNat, none⟩ (.string x)).setCell ⟨q, 4, none⟩ (.int .i64 (s.mn + 1))) := (But.put q r w (.inr rfl) _).trans (But.put q r _ (.inl rfl) _)
    refine ⟨rfl, ⟨⟨cap, T, ?_, fun e => by cases e⟩, _, (HC.out.put a.toNat (.string x)).off (p := ⟨q, 4, none⟩) (Ne.symm HN.out) _, tld_put HL.out HA.out⟩, K⟩
    have hq := (HH.out.off (p := ⟨r, a.toNat, none⟩) HN.out (.string x)).put 4 (.int .i64 (s.mn + 1))
    simp only [heads2, HD.out] at hq ⊢
    exact hq
  · rw [hld] at c1
    simp at c1
    have hz : s.fw ≠ 0 := fun e => hd ⟨hld, e⟩
    have hz' : (s.fw == 0) = false := by simpa using hz
    have hz1 : 1 ≤ s.fw := by omega
    have HH := Lib.hid hh
    have HC := Lib.hid hc
    have HL := Lib.hid hl
    have HT := Lib.hid ht
    have HD := Lib.hid hld
    have HA := Lib.hid ha
    have HN := Lib.hid hne
    clear h hh ht hc hl hp h2 hF hd hm hld ha hcp hln hz
    go_enter Tryz.func18, Tryz.ntmps18
    go_wp2
    go_ret
    have K : But q r w (((w.setCell ⟨q, 1, none⟩ (.int .i64 (s.fw - 1))).setCell ⟨r, a.toNat, none⟩ (.string x)).setCell ⟨q, 4, none⟩ (.int .i64 (s.mn + 1))) := ((But.put q r w (.inl rfl) _).trans (But.put q r _ (.inr rfl) _)).trans (But.put q r _ (.inl rfl) _)
    refine ⟨rfl, ⟨⟨cap, T, ?_, fun _ => HT.out HD.out⟩, _, ((HC.out.off (p := ⟨q, 1, none⟩) (Ne.symm HN.out) _).put a.toNat (.string x)).off (p := ⟨q, 4, none⟩) (Ne.symm HN.out) _, tld_put HL.out HA.out⟩, K⟩
    have hq := ((HH.out.put 1 (.int .i64 (s.fw - 1))).off (p := ⟨r, a.toNat, none⟩) HN.out (.string x)).put 4 (.int .i64 (s.mn + 1))
    simp only [heads2, HD.out] at hq ⊢
    exact hq

theorem tear_end {w : World} {q r cap k : Nat} {T : Int} {s : SS} {cs : Array Value} (Z : ByteArray) (hh : Has w q 58 (heads2 r cap T s)) (hc : Has w r 9 cs) (hl : Tld cs s.n s.B) (hn : q ≠ r) (hk : k < s.n) (ht : s.ld = true → s.ft = clamp T) :
    Rt ((w.setCell ⟨r, k, none⟩ (.string Z)).setCell ⟨q, 3, none⟩ (.bool true)).drew q r { s with B := upd s.B k Z, pw := false } ∧ But q r w ((w.setCell ⟨r, k, none⟩ (.string Z)).setCell ⟨q, 3, none⟩ (.bool true)).drew := by
  refine ⟨⟨⟨cap, T, ?_, ht⟩, _, (hc.put k (.string Z)).off (p := ⟨q, 3, none⟩) (Ne.symm hn) _, tld_put hl hk⟩, ?_⟩
  · exact (hh.off (p := ⟨r, k, none⟩) hn (.string Z)).put 3 (.bool true)
  · have K := (But.put q r w (a := ⟨r, k, none⟩) (.inr rfl) (.string Z)).trans (But.put q r _ (a := ⟨q, 3, none⟩) (.inl rfl) (.bool true))
    exact ⟨K.os, K.tape, K.output, K.size, K.block⟩
theorem torn_none (x y : ByteArray) : torn x y 0 = y := by
  unfold torn
  apply ByteArray.ext
  apply Array.toList_inj.1
  simp only [ByteArray.data_append, Array.toList_append, Lib.extract_data]
  simp
  exact List.take_of_length_le (by rw [← Lib.size_eq]; exact Nat.le_refl _)

set_option maxRecDepth 100000 in
set_option maxHeartbeats 1000000 in
theorem rwrite_tear (w : World) (q r : Nat) (s : SS) (a : Int) (x : ByteArray) (m : Int) (h : Rt w q r s) (hF : Fine s m) (z : inR s a x) (hp : s.pw = true) (hd : s.ld = true) (hz : s.fw = 0) :
    Calls Tryz.prog 18 #[.pointer (some ⟨q, 0, none⟩), .int .i64 a, .string x] w fun e w' => e = .returned (.int .i64 9) ∧ Rt w' q r { s with B := upd s.B a.toNat (torn x (s.B a.toNat) s.ft.toNat), pw := false } ∧ But q r w w' := by
  obtain ⟨cap, T, hh, ht⟩ := h.head
  obtain ⟨cs, hc, hl⟩ := h.row
  have hne : q ≠ r := h.ne
  obtain ⟨h0, h1, h2⟩ := z
  have ha : a.toNat < s.n := by omega
  have c0 : w.cell? ⟨q, 0, none⟩ = some (.slice (some ⟨r, 0, none⟩) s.n (s.n + cap)) := hh.cell 0
  have c1 : w.cell? ⟨q, 1, none⟩ = some (.int .i64 (if s.ld = true then s.fw else -1)) := hh.cell 1
  have c2 : w.cell? ⟨q, 2, none⟩ = some (.int .i64 T) := hh.cell 2
  have c3 : w.cell? ⟨q, 3, none⟩ = some (.bool (!s.pw)) := hh.cell 3
  rw [hp] at c3
  rw [hd, hz] at c1
  simp at c1
  have d0 : w.cell? ⟨r, a.toNat, none⟩ = some (.string (s.B a.toNat)) := by rw [hc.cell]; exact hl _ ha
  have f3 := hh.free 3
  have g0 := hc.free a.toNat
  have hy : ((x.size : Int) != 64) = false := by simp; omega
  have eT : s.ft = clamp T := ht hd
  have hT := hF.ft
  have hB : (s.B a.toNat).size = 64 := hF.sz _ ha
  obtain ⟨Y, hY⟩ : ∃ Y, Y = s.B a.toNat := ⟨_, rfl⟩
  rw [← hY] at hB d0 ⊢
  obtain ⟨t, hTt⟩ : ∃ t : Nat, s.ft = (t : Int) := ⟨s.ft.toNat, by omega⟩
  have ht64 : t ≤ 64 := by omega
  rw [hTt] at eT
  have hx1 : (t : Int) ≤ (x.size : Int) := by omega
  have hy1 : (t : Int) ≤ (Y.size : Int) := by omega
  have hs1 : ¬ (9223372036854775807 < (x.extract 0 t).size + (Y.extract t Y.size).size) := by simp [ByteArray.size_extract]; omega
  have hs2 : ¬ (9223372036854775807 < Y.size) := by omega
  have HH := Lib.hid hh
  have HC := Lib.hid hc
  have HL := Lib.hid hl
  have HT := Lib.hid ht
  have HTt := Lib.hid hTt
  have HD := Lib.hid hd
  have HP := Lib.hid hp
  have HZ := Lib.hid hz
  have HA := Lib.hid ha
  have HN := Lib.hid hne
  have eT' := Lib.hid eT
  unfold clamp at eT
  clear h hh ht hc hl hp h2 hF hd ha hz hTt hT hY hB
  by_cases n0 : T < 0
  · rw [if_pos n0] at eT
    obtain rfl : t = 0 := by omega
    clear eT
    go_enter Tryz.func18, Tryz.ntmps18
    go_wp2
    go_region
    all_goals
      go_wp2
      go_ret
      rw [show s.ft.toNat = 0 by rw [HTt.out]; rfl, torn_none]
      exact ⟨rfl, tear_end Y HH.out HC.out HL.out HN.out HA.out HT.out⟩
  · rw [if_neg n0] at eT
    by_cases n1 : 64 < T
    · rw [if_pos n1] at eT
      obtain rfl : t = 64 := by omega
      clear eT
      go_enter Tryz.func18, Tryz.ntmps18
      go_wp2
      go_region
      all_goals
        go_wp2
        go_ret
        rw [show s.ft.toNat = 64 by rw [HTt.out]; rfl]
        exact ⟨rfl, tear_end _ HH.out HC.out HL.out HN.out HA.out HT.out⟩
    · rw [if_neg n1] at eT
      obtain rfl : (t : Int) = T := by omega
      clear eT
      go_enter Tryz.func18, Tryz.ntmps18
      go_wp2
      go_region
      all_goals
        go_wp2
        go_ret
        rw [show s.ft.toNat = t by rw [HTt.out]; rfl]
        exact ⟨rfl, tear_end _ HH.out HC.out HL.out HN.out HA.out HT.out⟩

/-- a write, whatever the store and the bytes -/
theorem rwrite_any (w : World) (q r : Nat) (s : SS) (a : Int) (x : ByteArray) (m : Int) (h : Rt w q r s) (hF : Fine s m) (hm : m ≤ 1000000) :
    Calls Tryz.prog 18 #[.pointer (some ⟨q, 0, none⟩), .int .i64 a, .string x] w fun e w' => e = .returned (.int .i64 (wrE s a x)) ∧ Rt w' q r (wrS s a x) ∧ But q r w w' := by
  unfold wrE wrS
  by_cases z : inR s a x
  · rw [if_pos z, if_pos z]
    by_cases hp : s.pw = false
    · rw [if_pos hp, if_pos hp]
      refine (rwrite_down w q r s a x h z hp).mono ?_
      rintro e w' ⟨rfl, rfl⟩
      exact ⟨rfl, h, But.refl _ _ _⟩
    · rw [if_neg hp, if_neg hp]
      have hp' : s.pw = true := by simpa using hp
      by_cases hd : s.ld = true ∧ s.fw = 0
      · rw [if_pos hd, if_pos hd]
        exact rwrite_tear w q r s a x m h hF z hp' hd.1 hd.2
      · rw [if_neg hd, if_neg hd]
        exact rwrite_ok w q r s a x m h hF hm z hp' hd
  · rw [if_neg z, if_neg z]
    refine (rwrite_arg w q r s a x h z).mono ?_
    rintro e w' ⟨rfl, rfl⟩
    exact ⟨rfl, h, But.refl _ _ _⟩
end Go.Proofs.YtjffcgimdffkoaaGreatDoor
