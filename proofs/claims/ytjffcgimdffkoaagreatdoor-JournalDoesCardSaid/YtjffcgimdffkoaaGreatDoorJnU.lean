/- A journal begun, and opened. -/
import Derived.Test.YtjffcgimdffkoaaGreatDoorJnS
namespace Go.Proofs.YtjffcgimdffkoaaGreatDoor
open Go.RowKit

def nilS : ByteArray := ⟨#[]⟩
theorem nilS_str : str [] = nilS := rfl
theorem room_begin {s : SS} {h : Nat} (h3 : 3 ≤ s.n) (hn : s.n ≤ 4096) (hh : h ≤ 1) : Room4 s h (hlf s.n) 0 [] :=
  ⟨hh, by have := hlf_le hn; omega, by show 0 + 1 ≤ hlf s.n; unfold hlf; omega, two_le h3 hh, by simp⟩

/-- behind begin: the answer E; the journal, if there is one -/
def BegR (w : World) (J p b h k : Nat) (E : Int) (S : SS) (m : Int) (e : Ending) (w' : World) : Prop :=
  At w' p b S m ∧ Turn (fun k => k = J ∨ k = p ∨ k = b) w w' ∧ ((E ≠ 0 ∧ e = .returned (.tuple #[.pointer none, .int .i64 E])) ∨ (E = 0 ∧ e = .returned (.tuple #[.pointer (some ⟨J, 0, none⟩), .int .i64 0]) ∧ Has w' J 66 (jcs p h k 1 nilS (.slice none 0 0) false)))
set_option maxRecDepth 100000 in
set_option maxHeartbeats 2000000 in
theorem begin_any (w : World) (J p b h u : Nat) (s : SS) (m : Int) (hJ : Has w J 66 (jcs p h (hlf s.n) u nilS (.slice none 0 0) false)) (hA : At w p b s m) (hm : m ≤ 800000) (hh : h ≤ 1) (hT : Tb w) :
    Calls Tryz.prog 29 #[.pointer (some ⟨J, 0, none⟩)] w (BegR w J p b h (hlf s.n) (runW s (layW s.B [] (frm s.n h) (til s.n h))).2 (runW s (layW s.B [] (frm s.n h) (til s.n h))).1 (m + 10000)) := by
  have hl : Calls Tryz.prog 35 #[.pointer (some ⟨J, 0, none⟩), .agg (hv p h (hlf s.n)), .int .i64 0, .string nilS, .slice none 0 0] w (LayD w J p b h (hlf s.n) u nilS (.slice none 0 0) (runW s (layW s.B [] (frm s.n h) (til s.n h))) (m + 10000)) :=
    lay_do w J p b h (hlf s.n) u h 0 nilS nilS (.slice none 0 0) s m hJ hA hm (room_begin hA.fine.lo hA.fine.hi hh) hT
  obtain ⟨S, hS⟩ : ∃ S, S = runW s (layW s.B [] (frm s.n h) (til s.n h)) := ⟨_, rfl⟩
  rw [← hS] at hl ⊢
  obtain ⟨k, hk⟩ : ∃ k, k = hlf s.n := ⟨_, rfl⟩
  rw [← hk] at hl hJ ⊢
  have HB : Hid (∀ W : World, Calls Tryz.prog 36 #[.int .i64 0] W fun e w' => e = .returned (.int .i64 1) ∧ W = w') := fun W => blk_any 0 W
  have C4 := hJ.jc4
  unfold Jc4 at C4
  obtain ⟨c0, c1, c2, _⟩ := C4
  unfold hv nilS at hl
  have HL := Lib.hid hl
  clear hl hJ hA hT hS hk hh
  obtain ⟨E, hE⟩ : ∃ E, E = S.2 := ⟨_, rfl⟩
  have HE := Lib.hid hE
  rw [← hE]
  by_cases q : E = 0
  · have hE0 : (E != 0) = false := by rw [q]; rfl
    have HQ := Lib.hid q
    have HLR : Hid (Calls Tryz.prog 35 #[.pointer (some ⟨J, 0, none⟩), .agg #[.pointer (some ⟨p, 0, none⟩), .int .i64 (h : Int), .int .i64 (k : Int)], .int .i64 0, .string { data := #[] }, .slice none 0 0] w (LayR w J p b h k u { data := #[] } (.slice none 0 0) 0 S.1 false (m + 10000))) :=
      HL.out.mono fun e w' z => z.r0 (by rw [← hE, q])
    clear q hE HL
    go_enter Tryz.func29, Tryz.ntmps29
    go_wp2_with fail
    refine HLR.out.mono ?_
    rintro e w1 ⟨rfl, g1, g2, g3⟩
    have k0 := Lib.hid g1
    have k1 := Lib.hid g2
    have k2 := Lib.hid g3
    have d3 : w1.cell? ⟨J, 3, none⟩ = some (.int .i64 (u : Int)) := g2.cell 3
    have f3 := g2.free 3
    clear g1 g2 g3
    go_wp2_with fail
    refine (HB.out _).mono ?_
    rintro e w' ⟨rfl, rfl⟩
    go_wp2
    go_ret2
    have hn1 := k0.out.st.nbox k1.out (by decide) (by decide)
    exact ⟨⟨k0.out.st.off hn1.1 hn1.2 _, k0.out.fine⟩, k2.out.putJ 3 _, .inr ⟨HQ.out, rfl, k1.out.put 3 _⟩⟩
  · have hE0 : (E != 0) = true := by simpa using q
    have HQ := Lib.hid q
    have HLR : Hid (Calls Tryz.prog 35 #[.pointer (some ⟨J, 0, none⟩), .agg #[.pointer (some ⟨p, 0, none⟩), .int .i64 (h : Int), .int .i64 (k : Int)], .int .i64 0, .string { data := #[] }, .slice none 0 0] w (LayR w J p b h k u { data := #[] } (.slice none 0 0) E S.1 true (m + 10000))) :=
      HL.out.mono fun e w' z => by have := z.rE (by rw [← hE]; exact q); rw [← hE] at this; exact this
    clear q hE HL
    go_enter Tryz.func29, Tryz.ntmps29
    go_wp2_with fail
    refine HLR.out.mono ?_
    rintro e w1 ⟨rfl, g1, g2, g3⟩
    have k0 := Lib.hid g1
    have k2 := Lib.hid g3
    clear g1 g2 g3
    go_wp2
    go_ret2
    exact ⟨k0.out, k2.out, .inl ⟨HQ.out, rfl⟩⟩
end Go.Proofs.YtjffcgimdffkoaaGreatDoor

namespace Go.Proofs.YtjffcgimdffkoaaGreatDoor
open Go.RowKit

/-- the first of a row, and the others -/
theorem Rw.cut {w : World} {R : Nat} {v : Value} {x : ByteArray} {xs : List ByteArray} (h : Rw w R v (x :: xs)) :
    ∃ o c o1 c1, v = .slice (some ⟨R, o, none⟩) (xs.length + 1) c ∧ xs.length + 1 ≤ c ∧ c ≤ maxLen ∧ w.cell? ⟨R, o, none⟩ = some (.string x) ∧ Rw w R (.slice (some ⟨R, o1, none⟩) xs.length c1) xs ∧
      ∀ W : World, (Instr.slice 49 (.slice (some ⟨R, o, none⟩) (xs.length + 1) c) (some (.int .i64 1)) none none).run Tryz.prog W = .ok (.slice (some ⟨R, o1, none⟩) xs.length c1) W := by
  rcases h with ⟨_, h⟩ | ⟨o, c, cs, rfl, hR, hf, hc, hm, hx⟩
  · cases h
  · have hc' : xs.length + 1 ≤ c := by simpa using hc
    have h1 : (1 : Int) ≤ (xs.length : Int) + 1 := by omega
    have hx0 : w.cell? ⟨R, o, none⟩ = some (.string x) := by rw [hR.cell]; exact hx 0 x rfl
    by_cases q : c = 1
    · subst q
      have hxs : xs = [] := List.eq_nil_of_length_eq_zero (by omega)
      subst hxs
      refine ⟨o, 1, o, 0, rfl, hc', hm, hx0, .inr ⟨o, 0, cs, rfl, hR, by omega, by simp, by unfold maxLen; omega, fun j y e => by simp at e⟩, fun W => ?_⟩
      simp [Instr.slice, Instr.sliceBounds, Instr.sliceBound, asIntOf, go_sem]
    · refine ⟨o, c, o + 1, c - 1, rfl, hc', hm, hx0, .inr ⟨o + 1, c - 1, cs, rfl, hR, by omega, by omega, by unfold maxLen at *; omega, fun j y e => by rw [show o + 1 + j = o + (j + 1) by omega]; exact hx (j + 1) y e⟩, fun W => ?_⟩
      simp [Instr.slice, Instr.sliceBounds, Instr.sliceBound, asIntOf, go_sem, q, h1, addr_plus]

theorem open_nil (w : World) : Calls Tryz.prog 8 #[.pointer none] w fun e w' => e = .returned (.tuple #[.pointer none, .int .i64 1]) ∧ w = w' := by
  go_enter Tryz.func8, Tryz.ntmps8
  go_wp2
  go_ret2
  exact ⟨rfl, rfl⟩

/-- behind Open: the answer; the journal, if there is one -/
def OpnR (w : World) (p b : Nat) (S : SS × Option JS × Int) (m : Int) (e : Ending) (w' : World) : Prop :=
  But p b w w' ∧ match S.2.1 with
  | none => S.2.2 ≠ 0 ∧ e = .returned (.tuple #[.pointer none, .int .i64 S.2.2]) ∧ At w' p b S.1 m
  | some j => S.2.2 = 0 ∧ ∃ J R v, w.heap.size ≤ J ∧ w.heap.size ≤ R ∧ e = .returned (.tuple #[.pointer (some ⟨J, 0, none⟩), .int .i64 0]) ∧ Jat w' J R p b v S.1 j m ∧ Ok S.1.n j
theorem Turn.but {J p b : Nat} {w w1 w' : World} (h : Turn (fun k => k = J ∨ k = p ∨ k = b) w1 w') (h0 : Below w.heap.size w w1) (q : w.heap.size ≤ J) : But p b w w' :=
  ⟨h.os.trans h0.os, h.tape.trans h0.tape, h.output.trans h0.output, Nat.le_trans h0.size h.size, fun k hk q1 q2 => (h.block k (Nat.lt_of_lt_of_le hk h0.size) (by omega)).trans (h0.block k hk)⟩
end Go.Proofs.YtjffcgimdffkoaaGreatDoor
