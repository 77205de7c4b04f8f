/- A journal opened, whatever its store. -/
import Derived.Test.YtjffcgimdffkoaaDoorJnU
namespace Go.Proofs.YtjffcgimdffkoaaDoor
open Go.RowKit

theorem scan_nil (B : Nat → ByteArray) (e : Nat) : ∀ (f a q : Nat), scan B e f a = some ([], q) → q = a
  | 0, _, _, h => by simp [scan] at h
  | f + 1, a, q, h => by
    rw [scan_step] at h
    split at h
    · injection h with h; injection h with _ h; exact h.symm
    · split at h
      · cases h
      · split at h
        · injection h with h; injection h with _ h; exact h.symm
        · split at h
          · cases h
          · injection h with h; injection h with h _; cases h
/-- which half counts, if one does -/
def cntH (s : SS) : Nat := if s.B 0 = mark0 0 then 0 else 1
theorem cntH_le (s : SS) : cntH s ≤ 1 := by unfold cntH; split <;> omega
theorem openS_none {s : SS} (h : s.B 0 ≠ mark0 0) (h' : s.B 0 ≠ mark0 1) : openS s = (s, none, 8) := by
  unfold openS readS; rw [if_pos ⟨h, h'⟩]
theorem read_none {s : SS} (h : s.B 0 = mark0 0 ∨ s.B 0 = mark0 1) (hs : scan s.B (til s.n (cntH s)) (s.n + 1) (frm s.n (cntH s)) = none) : openS s = (s, none, 8) := by
  unfold openS readS
  rw [if_neg (by rintro ⟨a, b⟩; rcases h with h | h; exact a h; exact b h)]
  unfold cntH at hs
  rw [hs]
theorem read_some {s : SS} {L : List (List UInt8)} {q : Nat} (h : s.B 0 = mark0 0 ∨ s.B 0 = mark0 1) (hs : scan s.B (til s.n (cntH s)) (s.n + 1) (frm s.n (cntH s)) = some (L, q)) :
    readS s = some { half := cntH s, next := q, L := L, br := false } := by
  unfold readS
  rw [if_neg (by rintro ⟨a, b⟩; rcases h with h | h; exact a h; exact b h)]
  unfold cntH at hs ⊢
  rw [hs]

set_option maxRecDepth 100000 in
set_option maxHeartbeats 2000000 in
theorem open_no (w : World) (p b : Nat) (s : SS) (m : Int) (hA : At w p b s m) (h0 : s.B 0 ≠ mark0 0) (h1 : s.B 0 ≠ mark0 1) :
    Calls Tryd.prog 8 #[.pointer (some ⟨p, 0, none⟩)] w fun e w' => e = .returned (.tuple #[.pointer none, .int .i64 8]) ∧ Below w.heap.size w w' := by
  have HC : Hid (Calls Tryd.prog 20 #[.pointer (some ⟨p, 0, none⟩)] w fun e w' => e = .returned (.tuple #[.agg #[.pointer none, .int .i64 0, .int .i64 0], .int .i64 8]) ∧ Below w.heap.size w w') := by
    refine (counting_any w p b s m hA).mono ?_
    rintro e w' ⟨hb, h | h⟩
    · rcases h.1 with z | z
      · exact absurd z h0
      · exact absurd z h1
    · exact ⟨h.2.2, hb⟩
  clear hA h0 h1
  go_enter Tryd.func8, Tryd.ntmps8
  go_wp2_with fail
  refine HC.out.mono ?_
  rintro e w1 ⟨rfl, hb1⟩
  have HB := Lib.hid hb1
  clear hb1
  go_wp2
  go_ret2
  exact ⟨rfl, HB.out.alloc HB.out.size _⟩

set_option maxRecDepth 100000 in
set_option maxHeartbeats 2000000 in
theorem open_bad (w : World) (p b : Nat) (s : SS) (m : Int) (hA : At w p b s m) (hc : s.B 0 = mark0 0 ∨ s.B 0 = mark0 1) (hs : scan s.B (til s.n (cntH s)) (s.n + 1) (frm s.n (cntH s)) = none) (hT : Tb w) :
    Calls Tryd.prog 8 #[.pointer (some ⟨p, 0, none⟩)] w fun e w' => e = .returned (.tuple #[.pointer none, .int .i64 8]) ∧ Below w.heap.size w w' := by
  obtain ⟨h, hh⟩ : ∃ h, h = cntH s := ⟨_, rfl⟩
  obtain ⟨k, hk⟩ : ∃ k, k = hlf s.n := ⟨_, rfl⟩
  have hle : h ≤ 1 := by rw [hh]; exact cntH_le s
  have HC : Hid (Calls Tryd.prog 20 #[.pointer (some ⟨p, 0, none⟩)] w fun e w' => e = .returned (.tuple #[.agg #[.pointer (some ⟨p, 0, none⟩), .int .i64 (h : Int), .int .i64 (k : Int)], .int .i64 0]) ∧ Below w.heap.size w w') := by
    refine (counting_any w p b s m hA).mono ?_
    rintro e w' ⟨hb, q | q⟩
    · rw [hh, hk]; exact ⟨q.2, hb⟩
    · rcases hc with z | z
      · exact absurd z q.1
      · exact absurd z q.2.1
  have HR : Hid (∀ W : World, Below w.heap.size w W → Calls Tryd.prog 21 #[.agg #[.pointer (some ⟨p, 0, none⟩), .int .i64 (h : Int), .int .i64 (k : Int)]] W fun e w' => e = .returned (.tuple #[.slice none 0 0, .int .i64 0, .int .i64 8]) ∧ Below W.heap.size W w') := fun W q => by
    have h3 := hA.fine.lo
    have := hrecs_any W p b h k s m (hA.up q) hle (by rw [hk]; have := hlf_le hA.fine.hi; omega) (by rw [hk]; exact two_le h3 hle) (hT.up q)
    rw [show (1 + h * k) = frm s.n (cntH s) by rw [hh, hk]; rfl, show frm s.n (cntH s) + k = til s.n (cntH s) by rw [hk]; rfl, hs] at this
    exact this.mono fun _ _ ⟨a, c⟩ => ⟨c, a⟩
  clear hA hc hs hT hh hk
  go_enter Tryd.func8, Tryd.ntmps8
  go_wp2_with fail
  refine HC.out.mono ?_
  rintro e w1 ⟨rfl, hb1⟩
  have HB := Lib.hid hb1
  have HBa := Lib.hid (hb1.alloc hb1.size (.cells #[.pointer (some ⟨p, 0, none⟩), .int .i64 (h : Int), .int .i64 (k : Int)] 57))
  clear hb1
  go_wp2_with fail
  refine (HR.out _ HBa.out).mono ?_
  rintro e w2 ⟨rfl, hb2⟩
  have HB2 := Lib.hid (lots HBa.out hb2)
  clear hb2
  go_wp2
  go_ret2
  exact ⟨rfl, HB2.out⟩
end Go.Proofs.YtjffcgimdffkoaaDoor
