/- awake. -/
import Derived.Test.YtginbgclifdfiaaAcZ
namespace Go.Proofs.Ytginbgclifdfiaa
open Go.RowKit

def aw0 : Ld := ⟨3, 0, []⟩
def ap1 : List Po := [⟨0, 1, 50⟩, ⟨1, 1, -50⟩]
def ap2 : List Po := [⟨0, 1, 50⟩, ⟨1, 2, -50⟩]
def ap3 : List Po := [⟨0, 1, 0⟩]
def aw1 : Ld := ⟨3, 0, [⟨0, ap1, false⟩]⟩
def aw3 : Ld := ⟨3, 1, [⟨0, ap1, false⟩]⟩
def aw5 : Ld := ⟨3, 1, [⟨0, ap1, true⟩, ⟨1, negP ap1, true⟩]⟩
theorem ae1 : postE aw0 0 ap1 = 0 ∧ postN aw0 0 ap1 = 0 ∧ postS aw0 0 ap1 = aw1 := ⟨rfl, rfl, rfl⟩
theorem ae2 : postE aw1 0 ap2 = 10 ∧ postN aw1 0 ap2 = 0 ∧ postS aw1 0 ap2 = aw1 := ⟨rfl, rfl, rfl⟩
theorem ae3 : cloE aw1 0 = 0 ∧ cloS aw1 0 = aw3 := ⟨rfl, rfl⟩
theorem ae4 : postE aw3 0 ap3 = 7 ∧ postN aw3 0 ap3 = 0 ∧ postS aw3 0 ap3 = aw3 := ⟨rfl, rfl, rfl⟩
theorem ae5 : revE aw3 0 1 = 0 ∧ revN aw3 0 1 = 1 ∧ revS aw3 0 1 = aw5 := ⟨rfl, rfl, rfl⟩
theorem ae6 : revE aw5 1 1 = 6 ∧ revN aw5 1 1 = 0 ∧ revS aw5 1 1 = aw5 := ⟨rfl, rfl, rfl⟩
theorem ae7 : totE aw5 1 0 = 0 ∧ totV aw5 1 0 = -50 := ⟨rfl, rfl⟩
theorem ae8 : balV aw5 0 1 0 = 50 ∧ balV aw5 0 1 2 = 0 ∧ movV aw5 0 1 1 = -50 := ⟨rfl, rfl, rfl⟩

/-- a ledger of a call's own, on its way -/
structure Sn (w0 wr : World) (p : Nat) (S : Ld) (O : Nat → Prop) : Prop where
  lg : Lg wr p S O
  bel : Below w0.heap.size w0 wr
  old : ∀ b, O b → w0.heap.size ≤ b
section
variable {w0 wr w' : World} {p : Nat} {S S' : Ld} {O : Nat → Prop}
theorem Sn.up (h : Sn w0 wr p S O) (q : Below wr.heap.size wr w') : Sn w0 w' p S O := ⟨h.lg.up q, up2 h.bel q, h.old⟩
theorem Sn.on (h : Sn w0 wr p S O) (r : LgR wr p O S' w') : Sn w0 w' p S' (Nw O wr w') :=
  ⟨r.1, h.bel.trans (r.2.below h.bel.size h.old), fun b hb => hb.elim (h.old b) fun h2 => Nat.le_trans h.bel.size h2.1⟩
theorem psa_fresh (w : World) (ps : List Po) : PsA (w.alloc (.cells (flat ps).toArray 48)) (some ⟨w.heap.size, 0, none⟩) ps := by
  refine .inr ⟨_, _, rfl, fun i x hx => ?_⟩
  obtain ⟨h1, h2, h3⟩ := flat_cell hx
  have hh := Has.fresh w 48 (flat ps).toArray
  rw [hh.cell, hh.cell, hh.cell, List.getElem?_toArray, List.getElem?_toArray, List.getElem?_toArray, Nat.zero_add]
  exact ⟨h1, h2, h3⟩
theorem Sn.post (h : Sn w0 wr p S O) (q : Int) (ps : List Po) (n : Nat) (cs : Array Value) (hcs : cs = (flat ps).toArray) (hn : ps.length = n) (hm : Ams ps) {N E : Int} {S' : Ld} (hE : postE S q ps = E ∧ postN S q ps = N ∧ postS S q ps = S') :
    Calls Try.prog 26 #[.pointer (some ⟨p, 0, none⟩), .int .i64 q, .slice (some ⟨wr.heap.size, 0, none⟩) n n] (wr.alloc (.cells cs 48)) fun e w' => e = .returned (.tuple #[.int .i64 N, .int .i64 E]) ∧ ∃ O', Sn w0 w' p S' O' := by
  subst hcs
  obtain ⟨rfl, rfl, rfl⟩ := hE
  have h1 := h.up (boxed wr (.cells (flat ps).toArray 48))
  refine (post_any q _ n n ps h1.lg (psa_fresh wr ps) hn hm (fun _ ad e hO => ?_)).mono ?_
  · have := h.lg.bd _ hO
    obtain rfl : ad = ⟨wr.heap.size, 0, none⟩ := (Option.some.inj e).symm
    simp at this
  · rintro e w' ⟨rfl, hr⟩
    exact ⟨rfl, _, h1.on hr⟩
theorem Sn.rev (h : Sn w0 wr p S O) (i q : Int) {N E : Int} {S' : Ld} (hE : revE S i q = E ∧ revN S i q = N ∧ revS S i q = S') :
    Calls Try.prog 27 #[.pointer (some ⟨p, 0, none⟩), .int .i64 i, .int .i64 q] wr fun e w' => e = .returned (.tuple #[.int .i64 N, .int .i64 E]) ∧ ∃ O', Sn w0 w' p S' O' := by
  obtain ⟨rfl, rfl, rfl⟩ := hE
  refine (reverse_any i q h.lg).mono ?_
  rintro e w' ⟨rfl, hr⟩
  exact ⟨rfl, _, h.on hr⟩
theorem Sn.clo (h : Sn w0 wr p S O) (q : Int) {E : Int} {S' : Ld} (hE : cloE S q = E ∧ cloS S q = S') :
    Calls Try.prog 28 #[.pointer (some ⟨p, 0, none⟩), .int .i64 q] wr fun e w' => e = .returned (.int .i64 E) ∧ ∃ O', Sn w0 w' p S' O' := by
  obtain ⟨rfl, rfl⟩ := hE
  refine (close_any q h.lg).mono ?_
  rintro e w' ⟨rfl, hr⟩
  exact ⟨rfl, _, h.on hr⟩
end
theorem am_of {a : Int} (h : amB a = true) : Am a := amB_iff.1 h
theorem ams_of {ps : List Po} (h : (ps.all fun x => amB x.a && amB x.c && amB x.m) = true) : Ams ps := fun x hx => by
  have := List.all_eq_true.1 h x hx
  simp only [Bool.and_eq_true] at this
  exact ⟨am_of this.1.1, am_of this.1.2, am_of this.2⟩
set_option maxRecDepth 100000 in
set_option maxHeartbeats 16000000 in
theorem awake_any9 (w : World) : Calls Try.prog 7 #[] w fun e w' => e = .returned (.bool true) ∧ Below w.heap.size w w' := by
  go_enter Try.func7, Try.ntmps7
  go_wp2_with fail
  refine (show Calls Try.prog 9 #[.int .i64 3] w _ from new_yes 3 (by omega) (by omega)).mono ?_
  rintro e w1 ⟨rfl, h1, h2⟩
  obtain ⟨p, hp⟩ : ∃ p, p = w.heap.size + 1 := ⟨_, rfl⟩
  rw [← hp] at h1 ⊢
  have K1 : Hid (Sn w w1 p aw0 (Own9 w w1)) := ⟨h1, h2, fun b hb => hb.1⟩
  clear h1 h2 hp
  go_wp2_with fail
  refine (new_no (w := w1) 0 (.inl (by omega))).mono ?_
  rintro e w1' ⟨rfl, rfl⟩
  go_wp2_with fail
  refine (K1.out.post 0 ap1 2 _ rfl rfl (ams_of rfl) ae1).mono ?_
  rintro e w2 ⟨rfl, O2, h2⟩
  have K2 := Lib.hid h2
  clear h2
  go_wp2_with fail
  refine (K2.out.post 0 ap2 2 _ rfl rfl (ams_of rfl) ae2).mono ?_
  rintro e w3 ⟨rfl, O3, h3⟩
  have K3 := Lib.hid h3
  clear h3
  go_wp2_with fail
  refine (K3.out.clo 0 ae3).mono ?_
  rintro e w4 ⟨rfl, O4, h4⟩
  have K4 := Lib.hid h4
  clear h4
  go_wp2_with fail
  refine (K4.out.post 0 ap3 1 _ rfl rfl (ams_of rfl) ae4).mono ?_
  rintro e w5 ⟨rfl, O5, h5⟩
  have K5 := Lib.hid h5
  clear h5
  go_wp2_with fail
  refine (K5.out.rev 0 1 ae5).mono ?_
  rintro e w6 ⟨rfl, O6, h6⟩
  have K6 := Lib.hid h6
  clear h6
  go_wp2_with fail
  refine (K6.out.rev 1 1 ae6).mono ?_
  rintro e w7 ⟨rfl, O7, h7⟩
  have K7 := Lib.hid h7
  clear h7
  go_wp2_with fail
  refine (total_any 1 0 K7.out.lg (am_of rfl)).mono ?_
  rintro e w8 ⟨rfl, hb⟩
  have K8 := Lib.hid (K7.out.up hb)
  clear hb
  rw [ae7.1, ae7.2]
  go_wp2_with fail
  refine (entry_any 1 K8.out.lg).mono ?_
  rintro e w9 ⟨hr, hb⟩
  have K9 := Lib.hid (K8.out.up hb)
  obtain ⟨v, rfl, hv⟩ : ∃ v, e = .returned (.tuple #[.int .i64 1, v, .int .i64 0]) ∧ w9.ownsRow w8.heap.size 48 3 v 2 (flat (negP ap1)) := by
    rcases hr with ⟨h, _⟩ | ⟨x, v, _, hx, h1, h2⟩
    · cases h
    · obtain rfl : x = ⟨1, negP ap1, true⟩ := by
        have : aw5.L[(1 : Int).toNat]? = some ⟨1, negP ap1, true⟩ := rfl
        rw [this] at hx
        exact (Option.some.inj hx).symm
      exact ⟨v, h1, h2⟩
  obtain ⟨av, cv, rfl⟩ := own_form9 hv
  clear hr hb hv
  go_wp2_with fail
  refine (open_any K9.out.lg).mono ?_
  rintro e w9' ⟨rfl, rfl⟩
  rw [show ((aw5.op : Nat) : Int) = 1 by rfl]
  go_wp2_with fail
  refine (balance_any 0 1 0 K9.out.lg (am_of rfl) (am_of rfl)).mono ?_
  rintro e w10 ⟨rfl, hb⟩
  have K10 := Lib.hid (K9.out.up hb)
  clear hb
  rw [ae8.1]
  go_wp2_with fail
  refine (balance_any 0 1 2 K10.out.lg (am_of rfl) (am_of rfl)).mono ?_
  rintro e w11 ⟨rfl, hb⟩
  have K11 := Lib.hid (K10.out.up hb)
  clear hb
  rw [ae8.2.1]
  go_wp2_with fail
  refine (moved_any 0 1 1 K11.out.lg (am_of rfl) (am_of rfl)).mono ?_
  rintro e w12 ⟨rfl, rfl⟩
  rw [ae8.2.2]
  go_wp2_with fail
  refine (many_any K11.out.lg).mono ?_
  rintro e w13 ⟨rfl, rfl⟩
  rw [show ((aw5.L.length : Nat) : Int) = 2 by rfl]
  go_wp2_with fail
  go_ret
  exact ⟨rfl, K11.out.bel⟩
end Go.Proofs.Ytginbgclifdfiaa
