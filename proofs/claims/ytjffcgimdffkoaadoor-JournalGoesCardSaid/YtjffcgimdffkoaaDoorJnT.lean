/- A journal begun, and opened. -/
import Derived.Test.YtjffcgimdffkoaaDoorJnS
namespace Go.Proofs.YtjffcgimdffkoaaDoor
open Go.RowKit

def nilS : ByteArray := ⟨#[]⟩
theorem nilS_str : str [] = nilS := rfl
theorem room_begin {s : SS} {h : Nat} (h3 : 3 ≤ s.n) (hn : s.n ≤ 4096) (hh : h ≤ 1) : Room4 s h (hlf s.n) 0 [] :=
  ⟨hh, by have := hlf_le hn; omega, by show 0 + 1 ≤ hlf s.n; unfold hlf; omega, two_le h3 hh, by simp⟩

/-- behind begin: the answer E; the journal, if there is one -/
def BegR (w : World) (J p b h k : Nat) (E : Int) (S : SS) (m : Int) (e : Ending) (w' : World) : Prop :=
  At w' p b S m ∧ Turn (fun k => k = J ∨ k = p ∨ k = b) w w' ∧ ((E ≠ 0 ∧ e = .returned (.tuple #[.pointer none, .int .i64 E])) ∨ (E = 0 ∧ e = .returned (.tuple #[.pointer (some ⟨J, 0, none⟩), .int .i64 0]) ∧ Has w' J 63 (jcs p h k 1 nilS (.slice none 0 0) false)))
set_option maxRecDepth 100000 in
set_option maxHeartbeats 2000000 in
theorem begin_any (w : World) (J p b h u : Nat) (s : SS) (m : Int) (hJ : Has w J 63 (jcs p h (hlf s.n) u nilS (.slice none 0 0) false)) (hA : At w p b s m) (hm : m ≤ 800000) (hh : h ≤ 1) (hT : Tb w) :
    Calls Tryd.prog 22 #[.pointer (some ⟨J, 0, none⟩)] w (BegR w J p b h (hlf s.n) (runW s (layW s.B [] (frm s.n h) (til s.n h))).2 (runW s (layW s.B [] (frm s.n h) (til s.n h))).1 (m + 10000)) := by
  have hl : Calls Tryd.prog 24 #[.pointer (some ⟨J, 0, none⟩), .agg (hv p h (hlf s.n)), .int .i64 0, .string nilS, .slice none 0 0] w (LayD w J p b h (hlf s.n) u nilS (.slice none 0 0) (runW s (layW s.B [] (frm s.n h) (til s.n h))) (m + 10000)) :=
    lay_do w J p b h (hlf s.n) u h 0 nilS nilS (.slice none 0 0) s m hJ hA hm (room_begin hA.fine.lo hA.fine.hi hh) hT
  obtain ⟨S, hS⟩ : ∃ S, S = runW s (layW s.B [] (frm s.n h) (til s.n h)) := ⟨_, rfl⟩
  rw [← hS] at hl ⊢
  obtain ⟨k, hk⟩ : ∃ k, k = hlf s.n := ⟨_, rfl⟩
  rw [← hk] at hl hJ ⊢
  have HB : Hid (∀ W : World, Calls Tryd.prog 27 #[.int .i64 0] W fun e w' => e = .returned (.int .i64 1) ∧ W = w') := fun W => blk_any 0 W
  have C4 := hJ.jc4
  unfold Jc4 at C4
  obtain ⟨c0, c1, c2, _⟩ := C4
  unfold hv nilS at hl
  have HL := Lib.hid hl
  clear hl hJ hA hT hS hk hh
  obtain ⟨E, hE⟩ : ∃ E, E = S.2 := ⟨_, rfl⟩
  have HE := Lib.hid hE
  rw [← hE]
  by_cases q : E = 0
  · have hE0 : (E != 0) = false := by rw [q]; rfl
    have HQ := Lib.hid q
    have HLR : Hid (Calls Tryd.prog 24 #[.pointer (some ⟨J, 0, none⟩), .agg #[.pointer (some ⟨p, 0, none⟩), .int .i64 (h : Int), .int .i64 (k : Int)], .int .i64 0, .string { data := #[] }, .slice none 0 0] w (LayR w J p b h k u { data := #[] } (.slice none 0 0) 0 S.1 false (m + 10000))) :=
      HL.out.mono fun e w' z => z.r0 (by rw [← hE, q])
    clear q hE HL
    go_enter Tryd.func22, Tryd.ntmps22
    go_wp2_with fail
    refine HLR.out.mono ?_
    rintro e w1 ⟨rfl, g1, g2, g3⟩
    have k0 := Lib.hid g1
    have k1 := Lib.hid g2
    have k2 := Lib.hid g3
    have d3 : w1.cell? ⟨J, 3, none⟩ = some (.int .i64 (u : Int)) := g2.cell 3
    have f3 := g2.free 3
    clear g1 g2 g3
    go_wp2_with fail
    refine (HB.out _).mono ?_
    rintro e w' ⟨rfl, rfl⟩
    go_wp2
    go_ret2
    have hn1 := k0.out.st.nbox k1.out (by decide) (by decide)
    exact ⟨⟨k0.out.st.off hn1.1 hn1.2 _, k0.out.fine⟩, k2.out.putJ 3 _, .inr ⟨HQ.out, rfl, k1.out.put 3 _⟩⟩
  · have hE0 : (E != 0) = true := by simpa using q
    have HQ := Lib.hid q
    have HLR : Hid (Calls Tryd.prog 24 #[.pointer (some ⟨J, 0, none⟩), .agg #[.pointer (some ⟨p, 0, none⟩), .int .i64 (h : Int), .int .i64 (k : Int)], .int .i64 0, .string { data := #[] }, .slice none 0 0] w (LayR w J p b h k u { data := #[] } (.slice none 0 0) E S.1 true (m + 10000))) :=
      HL.out.mono fun e w' z => by have := z.rE (by rw [← hE]; exact q); rw [← hE] at this; exact this
    clear q hE HL
    go_enter Tryd.func22, Tryd.ntmps22
    go_wp2_with fail
    refine HLR.out.mono ?_
    rintro e w1 ⟨rfl, g1, g2, g3⟩
    have k0 := Lib.hid g1
    have k2 := Lib.hid g3
    clear g1 g2 g3
    go_wp2
    go_ret2
    exact ⟨k0.out, k2.out, .inl ⟨HQ.out, rfl⟩⟩
end Go.Proofs.YtjffcgimdffkoaaDoor
