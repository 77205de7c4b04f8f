/- awake of the statements of layer 5: it answers true. -/
import Derived.Test.YtdlhenpocdlomaaStB
import Derived.Test.YtdlhenpocdlomaaStC
namespace Go.Proofs.Ytdlhenpocdlomaa
open Go.RowKit

def exes : ByteArray := ⟨#[120, 120, 120, 120]⟩
theorem blk_exes_size : (blk exes true).size = 64 := by decide +kernel
theorem torn_exes (X : ByteArray) (h : X = blk exes true) : (((torn X (zs 64) 2).extract 0 4).toList == [120, 120, 0, 0]) = true := by
  subst h
  rw [Lib.toList_data]
  decide +kernel

section
variable {X : ByteArray} (hX : X.size = 64)
def aw1 (X : ByteArray) : SS := ⟨3, upd (fun _ => zs 64) 1 X, true, false, 0, 0, 1⟩
def aw2 (X : ByteArray) : SS := ⟨3, upd (fun _ => zs 64) 1 X, true, true, 0, 2, 1⟩
def aw3 (X : ByteArray) : SS := ⟨3, upd (upd (fun _ => zs 64) 1 X) 0 (torn X (zs 64) 2), false, true, 0, 2, 1⟩
def aw4 (X : ByteArray) : SS := ⟨3, upd (upd (fun _ => zs 64) 1 X) 0 (torn X (zs 64) 2), true, false, 0, 0, 1⟩
def aw5 (X : ByteArray) : SS := ⟨3, upd (upd (upd (fun _ => zs 64) 1 X) 0 (torn X (zs 64) 2)) 2 X, true, false, 0, 0, 2⟩
include hX
theorem aw_a : wrE (newS 3) 1 X = 0 ∧ wrS (newS 3) 1 X = aw1 X := by simp [wrE, wrS, inR, newS, hX, aw1]
omit hX in
theorem aw_b : wrE (aw1 X) 3 X = 1 ∧ wrS (aw1 X) 3 X = aw1 X := by simp [wrE, wrS, inR, aw1]
theorem aw_d : wrE (aw2 X) 0 X = 9 ∧ wrS (aw2 X) 0 X = aw3 X := by simp [wrE, wrS, inR, hX, aw2, aw3, upd]
theorem aw_g : wrE (aw3 X) 2 X = 9 ∧ wrS (aw3 X) 2 X = aw3 X := by simp [wrE, wrS, inR, hX, aw3]
theorem aw_i : wrE (aw4 X) 2 X = 0 ∧ wrS (aw4 X) 2 X = aw5 X := by simp [wrE, wrS, inR, hX, aw4, aw5]
end
theorem aw_c (X : ByteArray) : wrE (aw1 X) 1 ⟨#[120]⟩ = 1 ∧ wrS (aw1 X) 1 ⟨#[120]⟩ = aw1 X := by simp [wrE, wrS, inR, aw1, ByteArray.size]
theorem aw_f (X : ByteArray) : fuS (aw1 X) 0 2 = aw2 X := by simp [fuS, aw1, aw2, clamp]
theorem aw_r (X : ByteArray) : reS (aw3 X) = aw4 X := rfl

/-- a store as it may be, and where it lies -/
structure At (w : World) (p b : Nat) (s : SS) (m : Int) : Prop where
  st : St w p b s
  fine : Fine s m
theorem At.write {w : World} {p b : Nat} {s s' : SS} {m : Int} {a : Int} {x : ByteArray} {k : Int} (h : At w p b s m) (hm : m ≤ 1000) (q : wrE s a x = k ∧ wrS s a x = s') :
    Calls Try.prog 10 #[.pointer (some ⟨p, 0, none⟩), .int .i64 a, .string x] w fun e w' => e = .returned (.int .i64 k) ∧ At w' p b s' (m + 1) ∧ But p b w w' := by
  refine (write_any w p b s a x m h.st h.fine hm).mono ?_
  rintro e w' ⟨rfl, hs, hk⟩
  rw [q.1]
  rw [q.2] at hs
  exact ⟨rfl, ⟨hs, by rw [← q.2]; exact wr_fine h.fine⟩, hk⟩
theorem At.fuse {w : World} {p b : Nat} {s s' : SS} {m k t : Int} (h : At w p b s m) (hk : k ≤ 9223372036854775807) (q : fuS s k t = s') :
    Calls Try.prog 12 #[.pointer (some ⟨p, 0, none⟩), .int .i64 k, .int .i64 t] w fun e w' => e = .returned (.tuple #[]) ∧ At w' p b s' m ∧ But p b w w' := by
  refine (fuse_any w p b s k t h.st).mono ?_
  rintro e w' ⟨rfl, hs, hk'⟩
  rw [q] at hs
  exact ⟨rfl, ⟨hs, by rw [← q]; exact fu_fine h.fine hk⟩, hk'⟩
theorem At.restart {w : World} {p b : Nat} {s s' : SS} {m : Int} (h : At w p b s m) (q : reS s = s') :
    Calls Try.prog 13 #[.pointer (some ⟨p, 0, none⟩)] w fun e w' => e = .returned (.tuple #[]) ∧ At w' p b s' m ∧ But p b w w' := by
  refine (restart_any w p b s h.st).mono ?_
  rintro e w' ⟨rfl, hs, hk'⟩
  rw [q] at hs
  exact ⟨rfl, ⟨hs, by rw [← q]; exact re_fine h.fine⟩, hk'⟩
theorem At.up {w w' : World} {p b : Nat} {s : SS} {m : Int} (h : At w p b s m) (q : Below w.heap.size w w') : At w' p b s m := ⟨h.st.up q, h.fine⟩
theorem At.drewN {w : World} {p b : Nat} {s : SS} {m : Int} (h : At w p b s m) (n : Nat) : At (w.drewN n) p b s m := h.up ⟨rfl, rfl, rfl, Nat.le_refl _, fun _ _ => rfl⟩
theorem At.read {w : World} {p b : Nat} {s : SS} {m a : Int} (h : At w p b s m) (h0 : 0 ≤ a) (h1 : a < s.n) :
    Calls Try.prog 14 #[.pointer (some ⟨p, 0, none⟩), .int .i64 a] w fun e w' => e = .returned (.tuple #[.string (s.B a.toNat), .int .i64 0]) ∧ w = w' :=
  read_yes w p b s a h.st h0 h1 (h.fine.sz _ (by omega))
/-- a store that was made -/
def NewAt (w : World) (n : Nat) (e : Ending) (w' : World) : Prop :=
  ∃ p b, e = .returned (.tuple #[.pointer (some ⟨p, 0, none⟩), .int .i64 0]) ∧ At w' p b (newS n) 0 ∧ w.heap.size ≤ p ∧ w.heap.size ≤ b ∧ Below w.heap.size w w'
theorem new_at (w : World) (n : Int) (h0 : 3 ≤ n) (h1 : n ≤ 4096) : Calls Try.prog 6 #[.int .i64 n] w (NewAt w n.toNat) :=
  (new_yes w n h0 h1).mono fun _ _ ⟨e, s, b⟩ => ⟨_, _, e, ⟨s, new_fine (by omega) (by omega)⟩, by omega, Nat.le_refl _, b⟩
theorem near {w v v' : World} {p b : Nat} (h : Below w.heap.size w v) (k : But p b v v') (hp : w.heap.size ≤ p) (hb : w.heap.size ≤ b) : Below w.heap.size w v' := h.trans (k.below h.size hp hb)

set_option maxRecDepth 100000 in
set_option maxHeartbeats 4000000 in
theorem st_awake (w : World) : Calls Try.prog 5 #[] w fun e w' => e = .returned (.bool true) ∧ Below w.heap.size w w' := by
  obtain ⟨X, eX⟩ : ∃ X, X = blk exes true := ⟨_, rfl⟩
  have hX := blk_exes_size
  rw [← eX] at hX
  have HX := Lib.hid hX
  have HT := Lib.hid (torn_exes X eX)
  have EX := Lib.hid eX
  clear eX hX
  go_enter Try.func5, Try.ntmps5
  go_wp2_with fail
  refine (new_at w 3 (by decide) (by decide)).mono ?_
  rintro e w1 ⟨P, B, rfl, ha, lP, lB, hb⟩
  have A1 := Lib.hid ha
  have B1 := Lib.hid hb
  have LP := Lib.hid lP
  have LB := Lib.hid lB
  clear ha hb lP lB
  go_wp2_with fail
  refine (new_no w1 2 (by omega)).mono ?_
  rintro e w' ⟨rfl, rfl⟩
  go_wp2_with fail
  refine (block_any w1 0 0 0 0 exes true).mono ?_
  rw [← EX.out]
  rintro e w2 ⟨rfl, hb⟩
  have A2 := Lib.hid (A1.out.up hb)
  have B2 := Lib.hid (up2 B1.out hb)
  clear hb A1 B1
  go_wp2_with fail
  refine (A2.out.write (by decide) (aw_a HX.out)).mono ?_
  rintro e w3 ⟨rfl, ha, hk⟩
  have A3 := Lib.hid ha
  have B3 := Lib.hid (near B2.out hk LP.out LB.out)
  clear ha hk A2 B2
  go_wp2_with fail
  refine (A3.out.write (by decide) (aw_b (X := X))).mono ?_
  rintro e w4 ⟨rfl, ha, hk⟩
  have A4 := Lib.hid ha
  have B4 := Lib.hid (near B3.out hk LP.out LB.out)
  clear ha hk A3 B3
  go_wp2_with fail
  refine (A4.out.write (by decide) (aw_c X)).mono ?_
  rintro e w5 ⟨rfl, ha, hk⟩
  have A5 := Lib.hid ha
  have B5 := Lib.hid (near B4.out hk LP.out LB.out)
  clear ha hk A4 B4
  go_wp2_with fail
  refine (A5.out.fuse (by decide) (aw_f X)).mono ?_
  rintro e w6 ⟨rfl, ha, hk⟩
  have A6 := Lib.hid ha
  have B6 := Lib.hid (near B5.out hk LP.out LB.out)
  clear ha hk A5 B5
  go_wp2_with fail
  refine (A6.out.write (by decide) (aw_d HX.out)).mono ?_
  rintro e w7 ⟨rfl, ha, hk⟩
  have A7 := Lib.hid ha
  have B7 := Lib.hid (near B6.out hk LP.out LB.out)
  clear ha hk A6 B6
  go_wp2_with fail
  refine (A7.out.write (by decide) (aw_g HX.out)).mono ?_
  rintro e w8 ⟨rfl, ha, hk⟩
  have A8 := Lib.hid ha
  have B8 := Lib.hid (near B7.out hk LP.out LB.out)
  clear ha hk A7 B7
  go_wp2_with fail
  refine (A8.out.read (a := 0) (by omega) (by simp [aw3])).mono ?_
  rintro e w' ⟨rfl, rfl⟩
  have e0 : (aw3 X).B (Int.toNat 0) = torn X (zs 64) 2 := rfl
  rw [e0]
  clear e0
  go_wp2_with fail
  refine (A8.out.restart (aw_r X)).mono ?_
  rintro e w9 ⟨rfl, ha, hk⟩
  have A9 := Lib.hid ha
  have B9 := Lib.hid (near B8.out hk LP.out LB.out)
  clear ha hk A8 B8
  go_wp2_with fail
  refine (A9.out.write (by decide) (aw_i HX.out)).mono ?_
  rintro e w10 ⟨rfl, ha, hk⟩
  have A10 := Lib.hid ha
  have B10 := Lib.hid (near B9.out hk LP.out LB.out)
  clear ha hk A9 B9
  go_wp2_with fail
  refine (A10.out.read (a := 2) (by omega) (by simp [aw5])).mono ?_
  rintro e w' ⟨rfl, rfl⟩
  have e0 : (aw5 X).B (Int.toNat 2) = X := rfl
  rw [e0]
  clear e0
  go_wp2_with fail
  refine (read_no w10 P B _ 3 A10.out.st (by simp [aw5])).mono ?_
  rintro e w' ⟨rfl, rfl⟩
  have hx : ((X.size : Int) == 64) = true := by rw [HX.out]; rfl
  have ht : ((((torn X (zs 64) 2).size : Nat) : Int) == 64) = true := by rw [torn_size HX.out (zs_size 64) (by decide)]; rfl
  have hl : (4 : Int) ≤ (((torn X (zs 64) 2).size : Nat) : Int) := by rw [torn_size HX.out (zs_size 64) (by decide)]; omega
  have hq : ((torn X (zs 64) 2).extract 0 4).toList = [120, 120, 0, 0] := by simpa using HT.out
  go_wp2_with fail
  refine (blocks_any w10 P B _ A10.out.st).mono ?_
  rintro e w' ⟨rfl, rfl⟩
  have hn : (((aw5 X).n : Nat) : Int) = 3 := rfl
  rw [hn]
  clear hn
  go_wp2_with fail
  refine (writes_any w10 P B _ A10.out.st).mono ?_
  rintro e w' ⟨rfl, rfl⟩
  have hn : (aw5 X).mn = 2 := rfl
  rw [hn]
  clear hn
  go_wp2_with fail
  go_ret
  exact ⟨rfl, B10.out⟩
end Go.Proofs.Ytdlhenpocdlomaa
