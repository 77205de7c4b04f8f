/- A book of a call's own; awake; large. -/
import Derived.Test.YtjmgncjadfhmcaaBoF
import Derived.Test.YtjmgncjadfhmcaaDuJ
import Derived.Test.YtjmgncjadfhmcaaDvB
namespace Go.Proofs.Ytjmgncjadfhmcaa
open Go.RowKit

/-- a book of a call's own, on its way -/
structure Sb (w0 w : World) (p r : Nat) (S : Bs) : Prop where
  bk : Bk w p r S
  bel : Below w0.heap.size w0 w
  lo : w0.heap.size ≤ r
section
variable {w0 w w' : World} {p r : Nat} {S : Bs}
theorem Sb.up (h : Sb w0 w p r S) (q : Below w.heap.size w w') : Sb w0 w' p r S := ⟨h.bk.up q, up2 h.bel q, h.lo⟩
theorem Sb.of {i d n : Int} {e : Ending} (h : Sb w0 w p r S) (q : SetR w p r S i d n e w') : Sb w0 w' p r (setS S i d n) :=
  ⟨q.2.1, h.bel.grown q.2.2 h.bel.size (fun j hj => by injection hj with hj; have := h.lo; omega), h.lo⟩
end
/-- what New answers where it makes a book -/
theorem bnew_yes (a : Option Addr) (n cap : Nat) (I : List Im) (w : World) (hn : I.length = n) (hI : ItA w a I) (ha : a = none → cap = 0) (hp : ∀ x ∈ I, Am x.pri) (hE : bnewE I = 0) :
    Calls Try.prog 7 #[.slice a n cap] w fun e w' => ∃ p r, e = .returned (.tuple #[.pointer (some ⟨p, 0, none⟩), .int .i64 0]) ∧ Sb w w' p r ⟨I, []⟩ := by
  refine (bnew_any a n cap I w hn hI ha hp).mono ?_
  rintro e w' (⟨h, _⟩ | ⟨_, p, r, h1, h2, h3, h4⟩)
  · exact absurd hE h
  · exact ⟨p, r, h1, h2, h3, h4⟩
theorem bnew_no (a : Option Addr) (n cap : Nat) (I : List Im) (w : World) (hn : I.length = n) (hI : ItA w a I) (ha : a = none → cap = 0) (hp : ∀ x ∈ I, Am x.pri) {E : Int} (hE : bnewE I = E) (h0 : E ≠ 0) :
    Calls Try.prog 7 #[.slice a n cap] w fun e w' => e = .returned (.tuple #[.pointer none, .int .i64 E]) ∧ Below w.heap.size w w' := by
  refine (bnew_any a n cap I w hn hI ha hp).mono ?_
  rintro e w' (⟨_, h1, h2⟩ | ⟨h, _⟩)
  · rw [hE] at h1; exact ⟨h1, h2⟩
  · exact absurd (hE.symm.trans h) h0
theorem ita_fresh (w : World) (I : List Im) (cs : Array Value) (hcs : cs = (I.flatMap Im.cells).toArray) : ItA (w.alloc (.cells cs 50)) (some ⟨w.heap.size, 0, none⟩) I := by
  subst hcs
  refine .inr ⟨_, _, rfl, fun i x hx j v hv => ?_⟩
  rw [(Has.fresh w 50 (I.flatMap Im.cells).toArray).cell, List.getElem?_toArray, Nat.zero_add]
  exact flat_at im_len I i j x v hx hv
theorem lna_fresh (w : World) (x : Ln) : LnA (w.alloc (.cells #[.int .i64 x.it, .int .i64 x.un, .int .i64 x.ch, .int .i64 x.fi, .int .i64 x.la] 45)) (some ⟨w.heap.size, 0, none⟩) [x] := by
  refine .inr ⟨_, _, rfl, fun i y hy j v hv => ?_⟩
  match i, hy with
  | 0, hy =>
    obtain rfl : x = y := by simpa using hy
    rw [show 0 + 0 * 5 + j = j by omega, (Has.fresh w 45 #[.int .i64 x.it, .int .i64 x.un, .int .i64 x.ch, .int .i64 x.fi, .int .i64 x.la]).cell]
    exact (List.getElem?_toArray (xs := Ln.cells x) (i := j)).trans hv
def aI : List Im := [⟨0, 0, 0, 100⟩]
def aS0 : Bs := ⟨aI, []⟩
def aS1 : Bs := ⟨aI, [⟨0, 10, 120⟩]⟩
def aX : Ln := ⟨0, 3, 0, 1, 1⟩
theorem ak0 : bnewE aI = 0 ∧ bnewE [⟨0, 0, 0, 0⟩] = 1 := ⟨rfl, rfl⟩
theorem ak1 : setE aS0 0 10 120 = 0 ∧ setS aS0 0 10 120 = aS1 := ⟨rfl, rfl⟩
theorem ak2 : setE aS1 0 10 130 = 6 ∧ setS aS1 0 10 130 = aS1 := ⟨rfl, rfl⟩
theorem ak3 : priV aS1 0 9 = 100 ∧ priE aS1 0 9 = 0 ∧ priV aS1 0 10 = 120 ∧ priE aS1 0 10 = 0 ∧ priV aS1 1 10 = 0 ∧ priE aS1 1 10 = 5 := ⟨rfl, rfl, rfl, rfl, rfl, rfl⟩
theorem ak4 : aloV aS1 aX 11 = 360 ∧ aloE aS1 aX 11 = 0 := ⟨rfl, rfl⟩
theorem ak5 : itV aS1 0 = ⟨0, 0, 0, 100⟩ ∧ hasB aS1 0 = true := ⟨rfl, rfl⟩
theorem ak6 : chkE aS1 [aX] = 0 ∧ chkE aS1 [] = 1 := ⟨rfl, rfl⟩
end Go.Proofs.Ytjmgncjadfhmcaa

namespace Go.Proofs.Ytjmgncjadfhmcaa
open Go.RowKit

theorem rws_fresh {α : Type} {c : α → List Value} {z : Nat} (hz : ∀ x, (c x).length = z) (w : World) (T : Nat) (l : List α) (cs : Array Value) (hcs : cs = (l.flatMap c).toArray) : Rws c z (w.alloc (.cells cs T)) (some ⟨w.heap.size, 0, none⟩) l := by
  subst hcs
  refine .inr ⟨_, _, rfl, fun i x hx j v hv => ?_⟩
  rw [(Has.fresh w T (l.flatMap c).toArray).cell, List.getElem?_toArray, Nat.zero_add]
  exact flat_at hz l i j x v hx hv
theorem ln_len (x : Ln) : x.cells.length = 5 := rfl
def kI : List Im := [⟨0, 0, 0, 10⟩, ⟨1, 3, 1, 5⟩]
def kL : List Ln := [⟨0, 1, 9, 5, 6⟩, ⟨1, 2, 0, 4, 4⟩, ⟨0, 1, 0, 1, 1⟩, ⟨1, 1, 0, 9, 9⟩]
def kS : Bs := ⟨kI, []⟩
def kD : List Du := [⟨[0], 10, 1, 0, 5, 6⟩, ⟨[1, 3], 15, 3, 1, 4, 9⟩, ⟨[2], 10, 1, 0, 1, 1⟩]
theorem kk0 : bnewE kI = 0 := rfl
theorem kk1 : findE kS kL 0 = 0 := by decide +kernel
theorem kk2 : findV kS kL 0 = kD := by
  unfold findV
  rw [if_pos kk1]
  rfl
theorem kk3 : sumTo (chF kL) kL.length = 9 := by decide +kernel
/-- the obligations that awake writes out -/
def kY (s : Nat) : List DuX := [⟨some ⟨s, 0, none⟩, 1, ⟨[0], 10, 1, 0, 5, 6⟩⟩, ⟨some ⟨s + 1, 0, none⟩, 2, ⟨[1, 3], 15, 3, 1, 4, 9⟩⟩, ⟨some ⟨s + 2, 0, none⟩, 1, ⟨[2], 10, 1, 0, 1, 1⟩⟩]
theorem kY_d (s : Nat) : (kY s).map DuX.d = kD := rfl
theorem lit_dus (w W : World) (hW : W = ((((w.alloc (.cells #[.int .i64 0] 3)).alloc (.cells #[.int .i64 1, .int .i64 3] 3)).alloc (.cells #[.int .i64 2] 3)).alloc (.cells #[.slice (some ⟨w.heap.size, 0, none⟩) 1 1, .int .i64 10, .int .i64 1, .int .i64 0, .int .i64 5, .int .i64 6, .slice (some ⟨w.heap.size + 1, 0, none⟩) 2 2, .int .i64 15, .int .i64 3, .int .i64 1, .int .i64 4, .int .i64 9, .slice (some ⟨w.heap.size + 2, 0, none⟩) 1 1, .int .i64 10, .int .i64 1, .int .i64 0, .int .i64 1, .int .i64 1] 43))) :
    DusA W (some ⟨w.heap.size + 3, 0, none⟩) (kY w.heap.size) ∧ Below w.heap.size w W := by
  obtain ⟨w1, h1⟩ : ∃ w1, w1 = w.alloc (.cells #[.int .i64 0] 3) := ⟨_, rfl⟩
  rw [← h1] at hW
  obtain ⟨w2, h2⟩ : ∃ w2, w2 = w1.alloc (.cells #[.int .i64 1, .int .i64 3] 3) := ⟨_, rfl⟩
  rw [← h2] at hW
  obtain ⟨w3, h3⟩ : ∃ w3, w3 = w2.alloc (.cells #[.int .i64 2] 3) := ⟨_, rfl⟩
  rw [← h3] at hW
  have s1 : w1.heap.size = w.heap.size + 1 := by rw [h1]; simp
  have s2 : w2.heap.size = w.heap.size + 2 := by rw [h2]; simp; omega
  have s3 : w3.heap.size = w.heap.size + 3 := by rw [h3]; simp; omega
  have b1 : Below w.heap.size w w1 := by rw [h1]; exact boxed _ _
  have b2 : Below w1.heap.size w1 w2 := by rw [h2]; exact boxed _ _
  have b3 : Below w2.heap.size w2 w3 := by rw [h3]; exact boxed _ _
  have b4 : Below w3.heap.size w3 W := by rw [hW]; exact boxed _ _
  have n1 : NsA w1 (some ⟨w.heap.size, 0, none⟩) [0] := by rw [h1]; exact rws_fresh nat_len w _ [0] _ rfl
  have n2 : NsA w2 (some ⟨w.heap.size + 1, 0, none⟩) [1, 3] := by rw [h2, ← s1]; exact rws_fresh nat_len w1 _ [1, 3] _ rfl
  have n3 : NsA w3 (some ⟨w.heap.size + 2, 0, none⟩) [2] := by rw [h3, ← s2]; exact rws_fresh nat_len w2 _ [2] _ rfl
  have n4 : Rws DuX.cells 6 W (some ⟨w.heap.size + 3, 0, none⟩) (kY w.heap.size) := by rw [hW, ← s3]; exact rws_fresh du_len w3 _ (kY w.heap.size) _ rfl
  refine ⟨⟨n4, fun x hx => ?_⟩, up2 (up2 (up2 b1 b2) b3) b4⟩
  simp only [kY, List.mem_cons, List.not_mem_nil, or_false] at hx
  rcases hx with rfl | rfl | rfl
  · exact ((n1.up b2).up b3).up b4
  · exact (n2.up b3).up b4
  · exact n3.up b4
set_option maxRecDepth 100000 in
set_option maxHeartbeats 4000000 in
theorem awake_any11 (w : World) : Calls Try.prog 6 #[] w fun e w' => e = .returned (.bool true) ∧ Below w.heap.size w w' := by
  go_enter Try.func6, Try.ntmps6
  go_wp2_with fail
  refine (bnew_yes (some ⟨w.heap.size, 0, none⟩) 2 2 kI _ rfl (ita_fresh w kI _ rfl) (fun e => by cases e) (fun x hx => by simp [kI] at hx; rcases hx with rfl | rfl <;> exact am_small (by decide) (by decide)) kk0).mono ?_
  rintro e w1 ⟨p, r, rfl, hs⟩
  have K1 : Hid (Sb w w1 p r kS) := ⟨hs.bk, up2 (boxed _ _) hs.bel, by have := hs.lo; simp at this; omega⟩
  clear hs
  go_wp2_with fail
  obtain ⟨W2, hW2⟩ : ∃ W2, W2 = w1.alloc (.cells #[.int .i64 0, .int .i64 1, .int .i64 9, .int .i64 5, .int .i64 6, .int .i64 1, .int .i64 2, .int .i64 0, .int .i64 4, .int .i64 4, .int .i64 0, .int .i64 1, .int .i64 0, .int .i64 1, .int .i64 1, .int .i64 1, .int .i64 1, .int .i64 0, .int .i64 9, .int .i64 9] 45) := ⟨_, rfl⟩
  rw [← hW2]
  have HL : Hid (LnA W2 (some ⟨w1.heap.size, 0, none⟩) kL) := by rw [hW2]; exact Lib.hid (rws_fresh ln_len w1 _ kL _ rfl)
  have K2 : Hid (Sb w W2 p r kS) := by rw [hW2]; exact Lib.hid (K1.out.up (boxed _ _))
  have hun : ∀ x ∈ kL, Am x.un := fun x hx => by simp [kL] at hx; rcases hx with rfl | rfl | rfl | rfl <;> exact am_small (by decide) (by decide)
  have hch : ∀ x ∈ kL, Am x.ch := fun x hx => by simp [kL] at hx; rcases hx with rfl | rfl | rfl | rfl <;> exact am_small (by decide) (by decide)
  have HC := Lib.hid hch
  have hfind := find_any (some ⟨w1.heap.size, 0, none⟩) 4 kL 0 K2.out.bk HL.out hun
  clear hW2 hun hch
  refine hfind.mono ?_
  rintro e w3 ⟨a3, c3, X, rfl, hX, hD, hb⟩
  rw [kk2] at hX
  have hXl : X.length = 3 := by have := congrArg List.length hX; simpa [kD] using this
  rw [kk1, hXl]
  have K3 := Lib.hid (K2.out.up hb)
  have HL3 := Lib.hid (HL.out.up hb)
  have HD := Lib.hid hD
  have HX := Lib.hid hX
  clear hfind hb hD hX
  go_wp2_with fail
  refine (find_nil _ 0 _).mono ?_
  rintro e w4 ⟨rfl, hb⟩
  have K4 := Lib.hid (K3.out.up hb)
  have HL4 := Lib.hid (HL3.out.up hb)
  have HD4 := Lib.hid (HD.out.up hb)
  clear hb
  go_wp2_with fail
  refine (charge_any (some ⟨w1.heap.size, 0, none⟩) 4 kL _ HL4.out (by decide) HC.out).mono ?_
  rintro e w5 ⟨rfl, hb⟩
  rw [kk3, show tellV 9 = 9 from rfl, show tellE 9 = 0 from rfl]
  have K5 := Lib.hid (K4.out.up hb)
  have HD5 := Lib.hid (HD4.out.up hb)
  clear hb
  go_wp2_with fail
  have hlit := lit_dus w5 _ rfl
  have hln : ∀ x ∈ X, x.d.ls.length ≤ 1000 := fun x hx => by
    have hm : x.d ∈ kD := by rw [← HX.out]; exact List.mem_map.2 ⟨x, hx, rfl⟩
    simp [kD] at hm
    rcases hm with h | h | h <;> rw [h] <;> decide
  have hsame := same_any11 a3 (some ⟨w5.heap.size + 3, 0, none⟩) c3 3 X (kY w5.heap.size) _ (HD5.out.up hlit.2) hlit.1 (by omega) hln
  rw [hXl, HX.out, kY_d, same_refl] at hsame
  have K6 := Lib.hid (K5.out.up hlit.2)
  clear hlit hln
  refine hsame.mono ?_
  rintro e w6 ⟨rfl, hb⟩
  have K7 := Lib.hid (K6.out.up hb)
  clear hb hsame
  go_wp2_with fail
  go_ret
  exact ⟨rfl, K7.out.bel⟩
end Go.Proofs.Ytjmgncjadfhmcaa
