/- A store as it may be, and where it lies. -/
import Derived.Test.YtjffcgimdffkoaaDoorStB
namespace Go.Proofs.YtjffcgimdffkoaaDoor
open Go.RowKit

/-- a store as it may be, and where it lies -/
structure At (w : World) (p b : Nat) (s : SS) (m : Int) : Prop where
  st : St w p b s
  fine : Fine s m
theorem At.write {w : World} {p b : Nat} {s s' : SS} {m : Int} {a : Int} {x : ByteArray} {k : Int} (h : At w p b s m) (hm : m ≤ 1000) (q : wrE s a x = k ∧ wrS s a x = s') :
    Calls Tryd.prog 18 #[.pointer (some ⟨p, 0, none⟩), .int .i64 a, .string x] w fun e w' => e = .returned (.int .i64 k) ∧ At w' p b s' (m + 1) ∧ But p b w w' := by
  refine (write_any w p b s a x m h.st h.fine (by omega)).mono ?_
  rintro e w' ⟨rfl, hs, hk⟩
  rw [q.1]
  rw [q.2] at hs
  exact ⟨rfl, ⟨hs, by rw [← q.2]; exact wr_fine h.fine⟩, hk⟩
theorem At.fuse {w : World} {p b : Nat} {s s' : SS} {m k t : Int} (h : At w p b s m) (hk : k ≤ 9223372036854775807) (q : fuS s k t = s') :
    Calls Tryd.prog 9 #[.pointer (some ⟨p, 0, none⟩), .int .i64 k, .int .i64 t] w fun e w' => e = .returned (.tuple #[]) ∧ At w' p b s' m ∧ But p b w w' := by
  refine (fuse_any w p b s k t h.st).mono ?_
  rintro e w' ⟨rfl, hs, hk'⟩
  rw [q] at hs
  exact ⟨rfl, ⟨hs, by rw [← q]; exact fu_fine h.fine hk⟩, hk'⟩
theorem At.restart {w : World} {p b : Nat} {s s' : SS} {m : Int} (h : At w p b s m) (q : reS s = s') :
    Calls Tryd.prog 13 #[.pointer (some ⟨p, 0, none⟩)] w fun e w' => e = .returned (.tuple #[]) ∧ At w' p b s' m ∧ But p b w w' := by
  refine (restart_any w p b s h.st).mono ?_
  rintro e w' ⟨rfl, hs, hk'⟩
  rw [q] at hs
  exact ⟨rfl, ⟨hs, by rw [← q]; exact re_fine h.fine⟩, hk'⟩
theorem At.up {w w' : World} {p b : Nat} {s : SS} {m : Int} (h : At w p b s m) (q : Below w.heap.size w w') : At w' p b s m := ⟨h.st.up q, h.fine⟩
theorem At.drewN {w : World} {p b : Nat} {s : SS} {m : Int} (h : At w p b s m) (n : Nat) : At (w.drewN n) p b s m := h.up ⟨rfl, rfl, rfl, Nat.le_refl _, fun _ _ => rfl⟩
theorem At.read {w : World} {p b : Nat} {s : SS} {m a : Int} (h : At w p b s m) (h0 : 0 ≤ a) (h1 : a < s.n) :
    Calls Tryd.prog 32 #[.pointer (some ⟨p, 0, none⟩), .int .i64 a] w fun e w' => e = .returned (.tuple #[.string (s.B a.toNat), .int .i64 0]) ∧ w = w' :=
  read_yes w p b s a h.st h0 h1 (h.fine.sz _ (by omega))
/-- a store that was made -/
def NewAt (w : World) (n : Nat) (e : Ending) (w' : World) : Prop :=
  ∃ p b, e = .returned (.tuple #[.pointer (some ⟨p, 0, none⟩), .int .i64 0]) ∧ At w' p b (newS n) 0 ∧ w.heap.size ≤ p ∧ w.heap.size ≤ b ∧ Below w.heap.size w w'
theorem new_at (w : World) (n : Int) (h0 : 3 ≤ n) (h1 : n ≤ 4096) : Calls Tryd.prog 7 #[.int .i64 n] w (NewAt w n.toNat) :=
  (new_yes w n h0 h1).mono fun _ _ ⟨e, s, b⟩ => ⟨_, _, e, ⟨s, new_fine (by omega) (by omega)⟩, by omega, Nat.le_refl _, b⟩
theorem near {w v v' : World} {p b : Nat} (h : Below w.heap.size w v) (k : But p b v v') (hp : w.heap.size ≤ p) (hb : w.heap.size ≤ b) : Below w.heap.size w v' := h.trans (k.below h.size hp hb)
end Go.Proofs.YtjffcgimdffkoaaDoor
