/- awake; arguments read. -/
import Derived.Test.YtginbgclifdfiaaAcZ
import Derived.ProofKit
import Derived.OpenShut
import Derived.ShutString
import Derived.ChangeOld
import Derived.ChangeSlices
import Derived.SizedLaws
import Derived.Deep.Slices
import Derived.Deep.Fields
namespace Go.Proofs.Ytginbgclifdfiaa
open Go.RowKit

def aw0 : Ld := ⟨3, 0, []⟩
def ap1 : List Po := [⟨0, 1, 50⟩, ⟨1, 1, -50⟩]
def ap2 : List Po := [⟨0, 1, 50⟩, ⟨1, 2, -50⟩]
def ap3 : List Po := [⟨0, 1, 0⟩]
def aw1 : Ld := ⟨3, 0, [⟨0, ap1, false⟩]⟩
def aw3 : Ld := ⟨3, 1, [⟨0, ap1, false⟩]⟩
def aw5 : Ld := ⟨3, 1, [⟨0, ap1, true⟩, ⟨1, negP ap1, true⟩]⟩
theorem ae1 : postE aw0 0 ap1 = 0 ∧ postN aw0 0 ap1 = 0 ∧ postS aw0 0 ap1 = aw1 := ⟨rfl, rfl, rfl⟩
theorem ae2 : postE aw1 0 ap2 = 10 ∧ postN aw1 0 ap2 = 0 ∧ postS aw1 0 ap2 = aw1 := ⟨rfl, rfl, rfl⟩
theorem ae3 : cloE aw1 0 = 0 ∧ cloS aw1 0 = aw3 := ⟨rfl, rfl⟩
theorem ae4 : postE aw3 0 ap3 = 7 ∧ postN aw3 0 ap3 = 0 ∧ postS aw3 0 ap3 = aw3 := ⟨rfl, rfl, rfl⟩
theorem ae5 : revE aw3 0 1 = 0 ∧ revN aw3 0 1 = 1 ∧ revS aw3 0 1 = aw5 := ⟨rfl, rfl, rfl⟩
theorem ae6 : revE aw5 1 1 = 6 ∧ revN aw5 1 1 = 0 ∧ revS aw5 1 1 = aw5 := ⟨rfl, rfl, rfl⟩
theorem ae7 : totE aw5 1 0 = 0 ∧ totV aw5 1 0 = -50 := ⟨rfl, rfl⟩
theorem ae8 : balV aw5 0 1 0 = 50 ∧ balV aw5 0 1 2 = 0 ∧ movV aw5 0 1 1 = -50 := ⟨rfl, rfl, rfl⟩

/-- a ledger of a call's own, on its way -/
structure Sn (w0 wr : World) (p : Nat) (S : Ld) (O : Nat → Prop) : Prop where
  lg : Lg wr p S O
  bel : Below w0.heap.size w0 wr
  old : ∀ b, O b → w0.heap.size ≤ b
section
variable {w0 wr w' : World} {p : Nat} {S S' : Ld} {O : Nat → Prop}
theorem Sn.up (h : Sn w0 wr p S O) (q : Below wr.heap.size wr w') : Sn w0 w' p S O := ⟨h.lg.up q, up2 h.bel q, h.old⟩
theorem Sn.on (h : Sn w0 wr p S O) (r : LgR wr p O S' w') : Sn w0 w' p S' (Nw O wr w') :=
  ⟨r.1, h.bel.trans (r.2.below h.bel.size h.old), fun b hb => hb.elim (h.old b) fun h2 => Nat.le_trans h.bel.size h2.1⟩
theorem psa_fresh (w : World) (ps : List Po) : PsA (w.alloc (.cells (flat ps).toArray 48)) (some ⟨w.heap.size, 0, none⟩) ps := by
  refine .inr ⟨_, _, rfl, fun i x hx => ?_⟩
  obtain ⟨h1, h2, h3⟩ := flat_cell hx
  have hh := Has.fresh w 48 (flat ps).toArray
  rw [hh.cell, hh.cell, hh.cell, List.getElem?_toArray, List.getElem?_toArray, List.getElem?_toArray, Nat.zero_add]
  exact ⟨h1, h2, h3⟩
theorem Sn.post (h : Sn w0 wr p S O) (q : Int) (ps : List Po) (n : Nat) (cs : Array Value) (hcs : cs = (flat ps).toArray) (hn : ps.length = n) (hm : Ams ps) {N E : Int} {S' : Ld} (hE : postE S q ps = E ∧ postN S q ps = N ∧ postS S q ps = S') :
    Calls Try.prog 26 #[.pointer (some ⟨p, 0, none⟩), .int .i64 q, .slice (some ⟨wr.heap.size, 0, none⟩) n n] (wr.alloc (.cells cs 48)) fun e w' => e = .returned (.tuple #[.int .i64 N, .int .i64 E]) ∧ ∃ O', Sn w0 w' p S' O' := by
  subst hcs
  obtain ⟨rfl, rfl, rfl⟩ := hE
  have h1 := h.up (boxed wr (.cells (flat ps).toArray 48))
  refine (post_any q _ n n ps h1.lg (psa_fresh wr ps) hn hm (fun _ ad e hO => ?_)).mono ?_
  · have := h.lg.bd _ hO
    obtain rfl : ad = ⟨wr.heap.size, 0, none⟩ := (Option.some.inj e).symm
    simp at this
  · rintro e w' ⟨rfl, hr⟩
    exact ⟨rfl, _, h1.on hr⟩
theorem Sn.rev (h : Sn w0 wr p S O) (i q : Int) {N E : Int} {S' : Ld} (hE : revE S i q = E ∧ revN S i q = N ∧ revS S i q = S') :
    Calls Try.prog 27 #[.pointer (some ⟨p, 0, none⟩), .int .i64 i, .int .i64 q] wr fun e w' => e = .returned (.tuple #[.int .i64 N, .int .i64 E]) ∧ ∃ O', Sn w0 w' p S' O' := by
  obtain ⟨rfl, rfl, rfl⟩ := hE
  refine (reverse_any i q h.lg).mono ?_
  rintro e w' ⟨rfl, hr⟩
  exact ⟨rfl, _, h.on hr⟩
theorem Sn.clo (h : Sn w0 wr p S O) (q : Int) {E : Int} {S' : Ld} (hE : cloE S q = E ∧ cloS S q = S') :
    Calls Try.prog 28 #[.pointer (some ⟨p, 0, none⟩), .int .i64 q] wr fun e w' => e = .returned (.int .i64 E) ∧ ∃ O', Sn w0 w' p S' O' := by
  obtain ⟨rfl, rfl⟩ := hE
  refine (close_any q h.lg).mono ?_
  rintro e w' ⟨rfl, hr⟩
  exact ⟨rfl, _, h.on hr⟩
end
theorem am_of {a : Int} (h : amB a = true) : Am a := amB_iff.1 h
theorem ams_of {ps : List Po} (h : (ps.all fun x => amB x.a && amB x.c && amB x.m) = true) : Ams ps := fun x hx => by
  have := List.all_eq_true.1 h x hx
  simp only [Bool.and_eq_true] at this
  exact ⟨am_of this.1.1, am_of this.1.2, am_of this.2⟩
set_option maxRecDepth 100000 in
set_option maxHeartbeats 16000000 in
theorem awake_any9 (w : World) : Calls Try.prog 7 #[] w fun e w' => e = .returned (.bool true) ∧ Below w.heap.size w w' := by
  go_enter Try.func7, Try.ntmps7
  go_wp2_with fail
  refine (show Calls Try.prog 9 #[.int .i64 3] w _ from new_yes 3 (by omega) (by omega)).mono ?_
  rintro e w1 ⟨rfl, h1, h2⟩
  obtain ⟨p, hp⟩ : ∃ p, p = w.heap.size + 1 := ⟨_, rfl⟩
  rw [← hp] at h1 ⊢
  have K1 : Hid (Sn w w1 p aw0 (Own9 w w1)) := ⟨h1, h2, fun b hb => hb.1⟩
  clear h1 h2 hp
  go_wp2_with fail
  refine (new_no (w := w1) 0 (.inl (by omega))).mono ?_
  rintro e w1' ⟨rfl, rfl⟩
  go_wp2_with fail
  refine (K1.out.post 0 ap1 2 _ rfl rfl (ams_of rfl) ae1).mono ?_
  rintro e w2 ⟨rfl, O2, h2⟩
  have K2 := Lib.hid h2
  clear h2
  go_wp2_with fail
  refine (K2.out.post 0 ap2 2 _ rfl rfl (ams_of rfl) ae2).mono ?_
  rintro e w3 ⟨rfl, O3, h3⟩
  have K3 := Lib.hid h3
  clear h3
  go_wp2_with fail
  refine (K3.out.clo 0 ae3).mono ?_
  rintro e w4 ⟨rfl, O4, h4⟩
  have K4 := Lib.hid h4
  clear h4
  go_wp2_with fail
  refine (K4.out.post 0 ap3 1 _ rfl rfl (ams_of rfl) ae4).mono ?_
  rintro e w5 ⟨rfl, O5, h5⟩
  have K5 := Lib.hid h5
  clear h5
  go_wp2_with fail
  refine (K5.out.rev 0 1 ae5).mono ?_
  rintro e w6 ⟨rfl, O6, h6⟩
  have K6 := Lib.hid h6
  clear h6
  go_wp2_with fail
  refine (K6.out.rev 1 1 ae6).mono ?_
  rintro e w7 ⟨rfl, O7, h7⟩
  have K7 := Lib.hid h7
  clear h7
  go_wp2_with fail
  refine (total_any 1 0 K7.out.lg (am_of rfl)).mono ?_
  rintro e w8 ⟨rfl, hb⟩
  have K8 := Lib.hid (K7.out.up hb)
  clear hb
  rw [ae7.1, ae7.2]
  go_wp2_with fail
  refine (entry_any 1 K8.out.lg).mono ?_
  rintro e w9 ⟨hr, hb⟩
  have K9 := Lib.hid (K8.out.up hb)
  obtain ⟨v, rfl, hv⟩ : ∃ v, e = .returned (.tuple #[.int .i64 1, v, .int .i64 0]) ∧ w9.ownsRow w8.heap.size 48 3 v 2 (flat (negP ap1)) := by
    rcases hr with ⟨h, _⟩ | ⟨x, v, _, hx, h1, h2⟩
    · cases h
    · obtain rfl : x = ⟨1, negP ap1, true⟩ := by
        have : aw5.L[(1 : Int).toNat]? = some ⟨1, negP ap1, true⟩ := rfl
        rw [this] at hx
        exact (Option.some.inj hx).symm
      exact ⟨v, h1, h2⟩
  obtain ⟨av, cv, rfl⟩ := own_form9 hv
  clear hr hb hv
  go_wp2_with fail
  refine (open_any K9.out.lg).mono ?_
  rintro e w9' ⟨rfl, rfl⟩
  rw [show ((aw5.op : Nat) : Int) = 1 by rfl]
  go_wp2_with fail
  refine (balance_any 0 1 0 K9.out.lg (am_of rfl) (am_of rfl)).mono ?_
  rintro e w10 ⟨rfl, hb⟩
  have K10 := Lib.hid (K9.out.up hb)
  clear hb
  rw [ae8.1]
  go_wp2_with fail
  refine (balance_any 0 1 2 K10.out.lg (am_of rfl) (am_of rfl)).mono ?_
  rintro e w11 ⟨rfl, hb⟩
  have K11 := Lib.hid (K10.out.up hb)
  clear hb
  rw [ae8.2.1]
  go_wp2_with fail
  refine (moved_any 0 1 1 K11.out.lg (am_of rfl) (am_of rfl)).mono ?_
  rintro e w12 ⟨rfl, rfl⟩
  rw [ae8.2.2]
  go_wp2_with fail
  refine (many_any K11.out.lg).mono ?_
  rintro e w13 ⟨rfl, rfl⟩
  rw [show ((aw5.L.length : Nat) : Int) = 2 by rfl]
  go_wp2_with fail
  go_ret
  exact ⟨rfl, K11.out.bel⟩
end Go.Proofs.Ytginbgclifdfiaa
namespace Go.Proofs.Ytginbgclifdfiaa
open Go.ChangeShapes Go.WideShapes Go.ChangeAt Go.RowKit Go.Deep

theorem own : ownKnob Try.prog.godebug = none := by kernel_rfl
theorem laidOut : laidOutB Try.prog = true := by kernel_rfl
theorem cInt : Try.prog.cellsOf 3 = 1 := by kernel_rfl
theorem cI64 : Try.prog.cellsOf 2 = 1 := by kernel_rfl
theorem cPost : Try.prog.cellsOf 48 = 3 := by kernel_rfl
theorem cPosts : Try.prog.cellsOf 32 = 1 := by kernel_rfl
theorem cOp9 : Try.prog.cellsOf 34 = 4 := by kernel_rfl

section
variable {H : Type} {enc : TypeId × Value → H} {W : World} {base : Nat} {spare : Nat → Bool} {held : Bool}
theorem plain_addr {w : World} {a : Addr} {v : Value} (h : w.cell? (a.add 0) = some v) : ∃ b o, a = ⟨b, o, none⟩ := by
  obtain ⟨b, o, sp⟩ := a
  cases sp with
  | none => exact ⟨b, o, rfl⟩
  | some u =>
    exfalso
    simp only [Addr.add] at h
    unfold World.cell? at h
    split at h <;> simp at h
theorem addr_at (b off : Nat) (k : Nat) : (⟨b, off, none⟩ : Addr).add k = ⟨b, off + k, none⟩ := by
  unfold Addr.add
  split
  · subst k; rfl
  · rfl
/-- rows of things that came in, one behind another -/
theorem list_of {α : Type} {p : Nat → α → Prop} : ∀ n : Nat, (∀ i, i < n → ∃ x, p i x) → ∃ l : List α, l.length = n ∧ ∀ i x, l[i]? = some x → p i x
  | 0, _ => ⟨[], rfl, fun i x h => by simp at h⟩
  | n + 1, h => by
    obtain ⟨l, hl, hp⟩ := list_of n fun i hi => h i (by omega)
    obtain ⟨x, hx⟩ := h n (by omega)
    refine ⟨l ++ [x], by simp [hl], fun i y hy => ?_⟩
    rcases Nat.lt_or_ge i n with r | r
    · rw [List.getElem?_append_left (by omega)] at hy
      exact hp i y hy
    · rw [List.getElem?_append_right (by omega)] at hy
      have : i = n := by
        rcases Nat.eq_or_lt_of_le r with q | q
        · exact q.symm
        · rw [List.getElem?_eq_none (by simp; omega)] at hy; cases hy
      subst this
      rw [hl, Nat.sub_self] at hy
      simp at hy
      subst hy
      exact hx
set_option maxRecDepth 100000 in
/-- a posting that came in -/
theorem post_read {fuel : Nat} {cs : List Value} {y : DataW H × List MemPlace} (h : DataW.trod enc Try.prog W base spare held fuel 48 cs = some y) :
    ∃ x : Po, cs = x.cells ∧ Am x.a ∧ Am x.c ∧ Am x.m := by
  obtain ⟨ys, n, _, _, hlen, hyl, hf⟩ := DataW.trod_struct Try.underlying48 h
  have h3 : cs.length = 3 := hlen.trans cPost
  match cs, h3 with
  | [c0, c1, c2], _ =>
    match ys, hyl with
    | [y0, y1, y2], _ =>
      have g0 : DataW.trod enc Try.prog W base spare held n 3 [c0] = some y0 := by simpa [cInt] using hf 0 _ rfl
      have g1 : DataW.trod enc Try.prog W base spare held n 3 [c1] = some y1 := by simpa [cInt] using hf 1 _ rfl
      have g2 : DataW.trod enc Try.prog W base spare held n 2 [c2] = some y2 := by simpa [cI64] using hf 2 _ rfl
      obtain ⟨a, e0, _, w0⟩ := DataW.trod_int Try.underlying3 g0
      obtain ⟨b, e1, _, w1⟩ := DataW.trod_int Try.underlying3 g1
      obtain ⟨c, e2, _, w2⟩ := DataW.trod_int Try.underlying2 g2
      simp at e0 e1 e2
      subst e0 e1 e2
      exact ⟨⟨a, b, c⟩, rfl, bounds_i64 w0, bounds_i64 w1, bounds_i64 w2⟩
set_option maxRecDepth 100000 in
/-- postings that came in -/
theorem posts_read {fuel : Nat} {cs : List Value} {y : DataW H × List MemPlace} (h : DataW.trod enc Try.prog W base spare held fuel 32 cs = some y) :
    ∃ (a : Option Addr) (ps : List Po) (cap : Nat), cs = [.slice a ps.length cap] ∧ PsA W a ps ∧ Ams ps := by
  rcases open_slice Try.underlying32 h with ⟨hcs, _⟩ | ⟨x, len, c, m, n, D, Pl, hcs, _, hl, hm, hmm, _, hi⟩
  · exact ⟨none, [], 0, hcs, .inl rfl, fun x hx => by cases hx⟩
  · have hlm : len ≤ m := by rw [hmm]; split <;> omega
    rcases Nat.eq_zero_or_pos len with q | q
    · subst q
      exact ⟨some x, [], c, hcs, .inl rfl, fun x hx => by cases hx⟩
    obtain ⟨b, o, rfl⟩ : ∃ b o, x = ⟨b, o, none⟩ := by
      obtain ⟨cs0, hc0, ht0⟩ := hi 0 (by omega)
      rw [cPost] at hc0
      obtain ⟨_, _, hat⟩ := World.cells?_some hc0
      obtain ⟨x0, rfl, _⟩ := post_read ht0
      have := hat 0 (by omega)
      simp only [Nat.zero_mul] at this
      refine plain_addr (w := W) (v := .int .i64 x0.a) ?_
      have e : ∀ z : Addr, (z.add 0).add 0 = z.add 0 := fun z => by simp [Addr.add]
      rw [e] at this
      exact this
    obtain ⟨ps, hpl, hp⟩ := list_of (p := fun i (z : Po) => (∀ j, j < 3 → W.cell? ⟨b, o + i * 3 + j, none⟩ = z.cells[j]?) ∧ Am z.a ∧ Am z.c ∧ Am z.m) len fun i hil => by
      obtain ⟨cs, hc, ht⟩ := hi i (by omega)
      obtain ⟨z, rfl, hz⟩ := post_read ht
      rw [cPost] at hc
      obtain ⟨_, _, hat⟩ := World.cells?_some hc
      refine ⟨z, fun j hj => ?_, hz⟩
      have := hat j hj
      rwa [addr_at, addr_at] at this
    refine ⟨_, ps, c, by rw [hcs, hpl], .inr ⟨b, o, rfl, fun i z hz => ⟨(hp i z hz).1 0 (by omega), (hp i z hz).1 1 (by omega), (hp i z hz).1 2 (by omega)⟩⟩, fun z hz => ?_⟩
    obtain ⟨i, hi'⟩ := List.mem_iff_getElem?.1 hz
    exact (hp i z hi').2
set_option maxRecDepth 100000 in
/-- an operation that came in -/
theorem opq_read {fuel : Nat} {cs : List Value} {y : DataW H × List MemPlace} (h : DataW.trod enc Try.prog W base spare held fuel 34 cs = some y) :
    ∃ x : Oq, cs = x.cells.toList ∧ OpA W x := by
  obtain ⟨ys, n, _, _, hlen, hyl, hf⟩ := DataW.trod_struct Try.underlying34 h
  have h4 : cs.length = 4 := hlen.trans cOp9
  match cs, h4 with
  | [c0, c1, c2, c3], _ =>
    match ys, hyl with
    | [y0, y1, y2, y3], _ =>
      have g0 : DataW.trod enc Try.prog W base spare held n 3 [c0] = some y0 := by simpa [cInt] using hf 0 _ rfl
      have g1 : DataW.trod enc Try.prog W base spare held n 3 [c1] = some y1 := by simpa [cInt] using hf 1 _ rfl
      have g2 : DataW.trod enc Try.prog W base spare held n 3 [c2] = some y2 := by simpa [cInt] using hf 2 _ rfl
      have g3 : DataW.trod enc Try.prog W base spare held n 32 [c3] = some y3 := by simpa [cPosts] using hf 3 _ rfl
      obtain ⟨d, e0, _, _⟩ := DataW.trod_int Try.underlying3 g0
      obtain ⟨q, e1, _, _⟩ := DataW.trod_int Try.underlying3 g1
      obtain ⟨i, e2, _, _⟩ := DataW.trod_int Try.underlying3 g2
      obtain ⟨a, ps, cap, e3, hp, hm⟩ := posts_read g3
      simp at e0 e1 e2 e3
      subst e0 e1 e2 e3
      exact ⟨⟨d, q, i, a, cap, ps⟩, rfl, hp, hm⟩
set_option maxRecDepth 100000 in
/-- a list of operations that came in -/
theorem opqs_read {fuel : Nat} {a : Option Addr} {len cap : Nat} {y : DataW H × List MemPlace} (h : DataW.trod enc Try.prog W base spare held fuel 22 [.slice a len cap] = some y) :
    ∃ l : List Oq, l.length = len ∧ OpsA W a l ∧ (a = none → cap = 0) ∧ ((l = [] ∧ y.1 = .nil) ∨ ∃ el sp, el.length = l.length ∧ y.1 = .slice el sp) := by
  rcases open_slice Try.underlying22 h with ⟨hcs, hy⟩ | ⟨x, l0, c, m, n, D, Pl, hcs, _, hl, hm, hmm, hy, hi⟩
  · simp at hcs
    obtain ⟨rfl, rfl, rfl⟩ := hcs
    exact ⟨[], rfl, ⟨fun x hx => (by cases hx), .inl rfl⟩, fun _ => rfl, .inl ⟨rfl, by rw [hy]⟩⟩
  · simp at hcs
    obtain ⟨rfl, rfl, rfl⟩ := hcs
    have hlm : len ≤ m := by rw [hmm]; split <;> omega
    rcases Nat.eq_zero_or_pos len with q | q
    · subst q
      exact ⟨[], rfl, ⟨fun x hx => (by cases hx), .inl rfl⟩, fun e => (by cases e), .inr ⟨(List.range 0).map D, _, by simp, (by rw [hy])⟩⟩
    obtain ⟨b, o, rfl⟩ : ∃ b o, x = ⟨b, o, none⟩ := by
      obtain ⟨cs0, hc0, ht0⟩ := hi 0 (by omega)
      rw [cOp9] at hc0
      obtain ⟨_, _, hat⟩ := World.cells?_some hc0
      obtain ⟨x0, rfl, _⟩ := opq_read ht0
      have := hat 0 (by omega)
      simp only [Nat.zero_mul] at this
      refine plain_addr (w := W) (v := .int .i64 x0.d) ?_
      have e : ∀ z : Addr, (z.add 0).add 0 = z.add 0 := fun z => by simp [Addr.add]
      rw [e] at this
      exact this
    obtain ⟨l, hpl, hp⟩ := list_of (p := fun i (z : Oq) => (∀ j, j < 4 → W.cell? ⟨b, o + i * 4 + j, none⟩ = z.cells.toList[j]?) ∧ OpA W z) len fun i hil => by
      obtain ⟨cs, hc, ht⟩ := hi i (by omega)
      obtain ⟨z, rfl, hz⟩ := opq_read ht
      rw [cOp9] at hc
      obtain ⟨_, _, hat⟩ := World.cells?_some hc
      refine ⟨z, fun j hj => ?_, hz⟩
      have := hat j hj
      rwa [addr_at, addr_at] at this
    have hO : OpsA W (some ⟨b, o, none⟩) l := ⟨fun z hz => by
      obtain ⟨i, hi'⟩ := List.mem_iff_getElem?.1 hz
      exact (hp i z hi').2, .inr ⟨b, o, rfl, fun i z hz => ⟨(hp i z hz).1 0 (by omega), (hp i z hz).1 1 (by omega), (hp i z hz).1 2 (by omega), (hp i z hz).1 3 (by omega)⟩⟩⟩
    exact ⟨l, hpl, hO, fun e => (by cases e), .inr ⟨(List.range len).map D, _, (by rw [List.length_map, List.length_range, hpl]), (by rw [hy])⟩⟩
theorem opqs_sized {ts : List TypeId} {ds : List (DataW H)} (h : (DataW.weightsEach Try.prog ts ds).all (· ≤ reachBytes) = true) {j : Nat} (ht : ts[j]? = some 22) {el sp : List (DataW H)} (hd : ds[j]? = some (.slice el sp)) :
    el.length ≤ 2932031007400 := by
  have hr : reachBytes = 140737488351232 := rfl
  have b9 : Try.prog.bytesOf 34 = 48 := by kernel_rfl
  have := sized_slice h ht hd Try.underlying22
  rw [b9] at this
  clear b9
  omega
end
end Go.Proofs.Ytginbgclifdfiaa
