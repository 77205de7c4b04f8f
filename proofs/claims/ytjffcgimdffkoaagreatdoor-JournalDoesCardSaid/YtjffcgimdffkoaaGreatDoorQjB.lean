/- The reference's journal: small calls. -/
import Derived.Test.YtjffcgimdffkoaaGreatDoorQsW
import Derived.Test.YtjffcgimdffkoaaGreatDoorQsN
import Derived.Test.YtjffcgimdffkoaaGreatDoorRcJ
import Derived.Test.YtjffcgimdffkoaaGreatDoorRcI
import Derived.Test.YtjffcgimdffkoaaGreatDoorJnSz
namespace Go.Proofs.YtjffcgimdffkoaaGreatDoor
open Go.RowKit

/-- the reference's journal's cells -/
def rcs (q h nx : Nat) (v : Value) (br : Bool) : Array Value := #[.pointer (some ⟨q, 0, none⟩), .int .i64 (h : Int), .int .i64 (nx : Int), v, .bool br]
theorem zB_zs : zB 64 = zs 64 := zs_str.symm

set_option maxRecDepth 100000 in
set_option maxHeartbeats 1000000 in
theorem jzeros_any (w : World) : Calls Tryz.prog 30 #[] w fun e w' => e = .returned (.string (zs 64)) ∧ Below w.heap.size w w' := by
  have hmk : ∀ W : World, (Instr.makeSlice 46 (.int .i64 64) (.int .i64 64)).run Tryz.prog W = .ok (.slice (some ⟨W.heap.size, 0, none⟩) 64 64) (W.alloc (.cells (byA (List.replicate 64 0)) 5)) := fun W => make_zero 64 (by omega) W
  have hcv := conv_zero 64
  rw [zB_zs] at hcv
  obtain ⟨C, hC⟩ : ∃ C, C = byA (List.replicate 64 0) := ⟨_, rfl⟩
  obtain ⟨Z, hZ⟩ : ∃ Z, Z = zs 64 := ⟨_, rfl⟩
  rw [← hC, ← hZ] at hcv
  rw [← hZ]
  simp only [← hC] at hmk
  clear hC hZ
  go_enter Tryz.func30, Tryz.ntmps30
  go_wp2
  go_ret
  exact ⟨rfl, boxed _ _⟩

set_option maxRecDepth 100000 in
set_option maxHeartbeats 1000000 in
theorem span_any (w : World) (q r h : Nat) (s : SS) (hR : Rt w q r s) (hh : h ≤ 1) (h3 : 3 ≤ s.n) (hn : s.n ≤ 4096) :
    Calls Tryz.prog 31 #[.pointer (some ⟨q, 0, none⟩), .int .i64 (h : Int)] w fun e w' => e = .returned (.tuple #[.int .i64 ((frm s.n h : Nat) : Int), .int .i64 ((til s.n h : Nat) : Int)]) ∧ w = w' := by
  obtain ⟨cap, T, hq, _⟩ := hR.head
  have c0 : w.cell? ⟨q, 0, none⟩ = some (.slice (some ⟨r, 0, none⟩) s.n (s.n + cap)) := hq.cell 0
  obtain ⟨N, hN⟩ : ∃ N, N = s.n := ⟨_, rfl⟩
  obtain ⟨k, hk⟩ : ∃ k, k = hlf s.n := ⟨_, rfl⟩
  have hk2 : ((N : Int) - 1) / 2 = (k : Int) := by rw [hk, hN]; unfold hlf; omega
  have hk3 : k ≤ 4096 := by rw [hk]; unfold hlf; omega
  have h0 : 0 ≤ (h : Int) * k := by have := Nat.zero_le (h * k); omega
  have h1 : (h : Int) * k ≤ 4096 := by have := Nat.mul_le_mul hh hk3; omega
  have e1 : ((frm s.n h : Nat) : Int) = 1 + (h : Int) * k := by unfold frm; rw [hk]; push_cast; rfl
  have e2 : ((til s.n h : Nat) : Int) = 1 + (h : Int) * k + k := by unfold til frm; rw [hk]; push_cast; rfl
  rw [e1, e2]
  rw [← hN] at c0 h3 hn
  clear hR hq hN hk e1 e2
  go_enter Tryz.func31, Tryz.ntmps31
  go_wp2
  go_ret2
  exact ⟨rfl, rfl⟩
end Go.Proofs.YtjffcgimdffkoaaGreatDoor

namespace Go.Proofs.YtjffcgimdffkoaaGreatDoor
open Go.RowKit

/-- the writes ahead of the record's first block -/
def preL (B : Nat → ByteArray) (l : List UInt8) (a e k : Nat) : List (Nat × ByteArray) := endW B (a + nb l.length) e ++ (bodyW (a + 1) ((layX l true).drop 1)).take k
theorem preL_next {B : Nat → ByteArray} {l : List UInt8} {a e k : Nat} {y : ByteArray} (hy : ((layX l true).drop 1)[k]? = some y) : preL B l a e (k + 1) = preL B l a e k ++ [(a + 1 + k, y)] := by
  unfold preL; rw [bodyW_take _ _ _ _ hy, List.append_assoc]
theorem preL_all (B : Nat → ByteArray) (l : List UInt8) (a e : Nat) : layW B l a e = preL B l a e (nb l.length - 1) ++ [(a, first l false), (a, first l true)] := by
  unfold preL layW endW
  rw [List.take_of_length_le (by rw [bodyW_len, rest_len]; exact Nat.le_refl _)]
theorem preL_more (B : Nat → ByteArray) (l : List UInt8) (a e k : Nat) : ∃ r, layW B l a e = preL B l a e k ++ r := by
  refine ⟨(bodyW (a + 1) ((layX l true).drop 1)).drop k ++ [(a, first l false), (a, first l true)], ?_⟩
  unfold preL layW endW
  conv => lhs; rw [← List.take_append_drop k (bodyW (a + 1) ((layX l true).drop 1))]
  rw [List.append_assoc, List.append_assoc, List.append_assoc]
theorem runW_on {s S : SS} {E : Int} {xs : List (Nat × ByteArray)} (h : runW s xs = (S, E)) (ys : List (Nat × ByteArray)) : runW s (xs ++ ys) = if E = 0 then runW S ys else (S, E) := by
  rw [runW_append, h]
/-- one more write -/
theorem runW_more {s S : SS} {xs : List (Nat × ByteArray)} (h : runW s xs = (S, 0)) (a : Nat) (x : ByteArray) : runW s (xs ++ [(a, x)]) = (wrS S a x, wrE S a x) := by
  rw [runW_on h, if_pos rfl, runW_one]
theorem runW_fine : ∀ (l : List (Nat × ByteArray)) (s : SS) (m : Int), Fine s m → Fine (runW s l).1 (m + l.length)
  | [], s, m, h => by simpa [runW] using h
  | (a, x) :: r, s, m, h => by
    rw [runW_cons]
    split
    · have := runW_fine r _ _ (wr_fine (a := (a : Int)) (x := x) h)
      refine this.more ?_
      simp; omega
    · refine (wr_fine (a := (a : Int)) (x := x) h).more ?_
      simp; omega
/-- the blocks behind the first one -/
theorem lay_at {l : List UInt8} {i : Nat} (h1 : 1 ≤ i) (h : i < nb l.length) : ∃ y, (layX l false)[i]? = some y ∧ ((layX l true).drop 1)[i - 1]? = some y := by
  have hi : i - 1 < ((layX l true).drop 1).length := by rw [rest_len]; omega
  refine ⟨((layX l true).drop 1)[i - 1], ?_, List.getElem?_eq_getElem hi⟩
  rw [lay_cons l false]
  obtain ⟨k, rfl⟩ : ∃ k, i = k + 1 := ⟨i - 1, by omega⟩
  rw [List.getElem?_cons_succ]
  exact List.getElem?_eq_getElem hi
theorem lay_first (l : List UInt8) (m : Bool) : (layX l m)[0]? = some (first l m) := by rw [lay_cons]; rfl
theorem first_turn (l : List UInt8) : (⟨#[1]⟩ : ByteArray) ++ (first l false).extract 1 (first l false).size = first l true := by
  rw [first_size, ext_str, show (⟨#[1]⟩ : ByteArray) = str [1] from rfl, str_app, first_list l true, first_list l false, str_list]
  congr 1
  show 1 :: List.take (64 - 1) (((wholeL l true).drop 1).take 63) = _
  rw [List.take_take]
  rfl

/-- the reference's store and journal in memory as bytes are laid; the blocks xs in g -/
structure Ly (w wr : World) (K q r g h nx : Nat) (v : Value) (br : Bool) (xs : List ByteArray) (s : SS) (m : Int) : Prop where
  rt : Rt wr q r s
  fine : Fine s m
  k : Has wr K 69 (rcs q h nx v br)
  strs : Strs wr g 0 xs
  ne : g ≠ q ∧ g ≠ r
  turn : Turn (fun k => k = q ∨ k = r) w wr
theorem Rt.nbox {w : World} {q r X t : Nat} {s : SS} {cs : Array Value} (h : Rt w q r s) (k : Has w X t cs) (h1 : t ≠ 58) (h2 : t ≠ 9) : X ≠ q ∧ X ≠ r := by
  obtain ⟨cap, T, hh, _⟩ := h.head
  obtain ⟨cs, hc, _⟩ := h.row
  exact ⟨k.ne hh h1, k.ne hc h2⟩
section
variable {w wr w' : World} {K q r g h nx : Nat} {v : Value} {br : Bool} {xs : List ByteArray} {s : SS} {m : Int}
theorem Ly.up (H : Ly w wr K q r g h nx v br xs s m) (k : Below wr.heap.size wr w') : Ly w w' K q r g h nx v br xs s m :=
  ⟨H.rt.up k, H.fine, H.k.up k, fun j x e => kcell k (H.strs j x e), H.ne, H.turn.trans (Turn.of _ k)⟩
theorem Ly.drew (H : Ly w wr K q r g h nx v br xs s m) : Ly w wr.drew K q r g h nx v br xs s m := H.up ⟨rfl, rfl, rfl, Nat.le_refl _, fun _ _ => rfl⟩
theorem Ly.drewN (H : Ly w wr K q r g h nx v br xs s m) (n : Nat) : Ly w (wr.drewN n) K q r g h nx v br xs s m := H.up ⟨rfl, rfl, rfl, Nat.le_refl _, fun _ _ => rfl⟩
theorem Ly.more (H : Ly w wr K q r g h nx v br xs s m) {k : Int} (e : m ≤ k) : Ly w wr K q r g h nx v br xs s k := ⟨H.rt, H.fine.more e, H.k, H.strs, H.ne, H.turn⟩
theorem Ly.write (H : Ly w wr K q r g h nx v br xs s m) (hm : m ≤ 900000) (i : Int) (y : ByteArray) :
    Calls Tryz.prog 18 #[.pointer (some ⟨q, 0, none⟩), .int .i64 i, .string y] wr fun e w' => e = .returned (.int .i64 (wrE s i y)) ∧ Ly w w' K q r g h nx v br xs (wrS s i y) (m + 1) := by
  refine (rwrite_any wr q r s i y m H.rt H.fine (by omega)).mono ?_
  rintro e w' ⟨rfl, rt, k⟩
  have hn := H.rt.nbox H.k (by decide) (by decide)
  exact ⟨rfl, rt, wr_fine H.fine, k.has H.k hn.1 hn.2, H.strs.but k H.ne.1 H.ne.2, H.ne, H.turn.trans (k.turn (F := fun k => k = q ∨ k = r) (.inl rfl) (.inr rfl))⟩
def KC (w : World) (K q : Nat) : Prop := w.cell? ⟨K, 0, none⟩ = some (.pointer (some ⟨q, 0, none⟩))
def KC2 (w : World) (K q g i : Nat) (y : ByteArray) : Prop := w.cell? ⟨K, 0, none⟩ = some (.pointer (some ⟨q, 0, none⟩)) ∧ w.cell? ⟨g, i, none⟩ = some (.string y)
def KC3 (w : World) (K q r n cap i : Nat) (y : ByteArray) : Prop := w.cell? ⟨K, 0, none⟩ = some (.pointer (some ⟨q, 0, none⟩)) ∧ w.cell? ⟨q, 0, none⟩ = some (.slice (some ⟨r, 0, none⟩) n cap) ∧ w.cell? ⟨r, i, none⟩ = some (.string y)
theorem KC3.up {n cap i : Nat} {y : ByteArray} (H : KC3 wr K q r n cap i y) (k : Below wr.heap.size wr w') : KC3 w' K q r n cap i y := ⟨kcell k H.1, kcell k H.2.1, kcell k H.2.2⟩
theorem KC3.drew {n cap i : Nat} {y : ByteArray} (H : KC3 wr K q r n cap i y) : KC3 wr.drew K q r n cap i y := H
theorem Ly.kc (H : Ly w wr K q r g h nx v br xs s m) : KC wr K q := H.k.cell 0
theorem Ly.kc2 (H : Ly w wr K q r g h nx v br xs s m) {i : Nat} {y : ByteArray} (hy : xs[i]? = some y) : KC2 wr K q g i y := ⟨H.k.cell 0, by have := H.strs i y hy; rwa [Nat.zero_add] at this⟩
theorem Ly.kc3 (H : Ly w wr K q r g h nx v br xs s m) {i : Nat} (hi : i < s.n) : ∃ cap, KC3 wr K q r s.n cap i (s.B i) := by
  obtain ⟨cap, T, hh, _⟩ := H.rt.head
  obtain ⟨cs, hc, hl⟩ := H.rt.row
  exact ⟨s.n + cap, H.k.cell 0, hh.cell 0, by rw [hc.cell]; exact hl _ hi⟩
/-- behind lay -/
def RLay (w : World) (K q r h nx n : Nat) (v : Value) (S : SS × Int) (e : Ending) (w' : World) : Prop :=
  e = .returned (.tuple #[.int .i64 (n : Int), .int .i64 S.2]) ∧ Rt w' q r S.1 ∧ Has w' K 69 (rcs q h nx v (S.2 != 0)) ∧ Turn (fun k => k = K ∨ k = q ∨ k = r) w w'
theorem Ly.done (H : Ly w wr K q r g h nx v br xs s m) (n : Nat) {S : SS × Int} {E : Int} (hS : S = (s, E)) (b : Bool) (hb : b = (E != 0)) : RLay w K q r h nx n v S (.returned (.tuple #[.int .i64 (n : Int), .int .i64 E])) (wr.setCell ⟨K, 4, none⟩ (.bool b)) := by
  subst hS hb
  have hn := H.rt.nbox H.k (by decide) (by decide)
  obtain ⟨cap, T, hh, ht⟩ := H.rt.head
  obtain ⟨cs, hc, hl⟩ := H.rt.row
  exact ⟨rfl, ⟨⟨cap, T, hh.off (p := ⟨K, 4, none⟩) (Ne.symm hn.1) _, ht⟩, cs, hc.off (p := ⟨K, 4, none⟩) (Ne.symm hn.2) _, hl⟩, H.k.put 4 _, (H.turn.mono (F' := fun k => k = K ∨ k = q ∨ k = r) fun k _ z => .inr z).put (a := ⟨K, 4, none⟩) (.inl rfl) _⟩
end

end Go.Proofs.YtjffcgimdffkoaaGreatDoor
