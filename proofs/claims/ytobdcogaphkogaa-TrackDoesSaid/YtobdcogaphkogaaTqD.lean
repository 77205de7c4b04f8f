/- The reference's One, of an obligation and its copy. -/
import Derived.Test.YtobdcogaphkogaaDqA
import Derived.Test.YtobdcogaphkogaaTqC
import Derived.Test.YtobdcogaphkogaaTrI
namespace Go.Proofs.Ytobdcogaphkogaa
open Go.RowKit

set_option maxRecDepth 100000 in
set_option maxHeartbeats 4000000 in
theorem one_copy (d : Dt) (a a' : Option Addr) (c c' : Nat) (w : World) (hx : InA w a d.ls) (hy : InA w a' d.ls) (hn : d.ls.length ≤ 1000) :
    Calls Try.prog 22 #[d.val a c, d.val a' c', .bool true] w fun e w' => e = .returned (.bool true) ∧ Below w.heap.size w w' := by
  obtain ⟨xls, xal, xun, xme, xfi, xla⟩ := d
  unfold Dt.val
  simp only at hx hy hn ⊢
  obtain ⟨n, hxn⟩ : ∃ n, n = xls.length := ⟨_, rfl⟩
  rw [← hxn] at hn ⊢
  have HX := Lib.hid hx
  have HY := Lib.hid hy
  have HXn := Lib.hid hxn
  clear hx hy hxn
  go_enter Try.func22, Try.ntmps22
  go_wp2_with fail
  obtain ⟨W0, hW0⟩ : ∃ W0, W0 = (w.alloc (.cells #[.slice a n c, .int .i64 xal, .int .i64 xun, .int .i64 xme, .int .i64 xfi, .int .i64 xla] 24)).alloc (.cells #[.slice a' n c', .int .i64 xal, .int .i64 xun, .int .i64 xme, .int .i64 xfi, .int .i64 xla] 24) := ⟨_, rfl⟩
  have HB0 : Hid (Below w.heap.size w W0) := by rw [hW0]; exact up2 (boxed _ _) (boxed _ _)
  have hs : (w.alloc (.cells #[.slice a n c, .int .i64 xal, .int .i64 xun, .int .i64 xme, .int .i64 xfi, .int .i64 xla] 24)).heap.size = w.heap.size + 1 := by simp
  have HA0 : Hid (W0.cell? ⟨w.heap.size, 0, none⟩ = some (.slice a n c)) := Lib.hid (by rw [hW0]; simp [go_sem])
  have HC0 : Hid (W0.cell? ⟨w.heap.size + 1, 0, none⟩ = some (.slice a' n c')) := Lib.hid (by rw [hW0]; simp [go_sem])
  rw [← hW0]
  clear hW0 hs
  go_loopw [7] (fun v7 wr => ∃ i : Nat, i ≤ n ∧ v7 = .int .i64 (i : Int) ∧ Below W0.heap.size W0 wr) (fun v7 _ => n - (intOf v7).toNat)
  case atStart => exact ⟨0, Nat.zero_le _, rfl, Below.refl _ _⟩
  case round =>
    obtain ⟨i, hi, rfl, hb⟩ := hrel
    have HB := Lib.hid hb
    have a0 := kcell hb HA0.out
    have b0 := kcell hb HC0.out
    clear hb
    by_cases hlt : i < n
    · obtain ⟨j, hj⟩ : ∃ j, xls[i]? = some j := ⟨xls[i]'(by rw [← HXn.out]; exact hlt), List.getElem?_eq_getElem _⟩
      obtain ⟨b, o, ha, c0⟩ := in_at (HX.out.up (up2 HB0.out HB.out)) hj
      obtain ⟨b2, o2, ha2, c1⟩ := in_at (HY.out.up (up2 HB0.out HB.out)) hj
      subst ha; subst ha2
      have e1 : IntKind.i64.wrap ((i : Int) + 1) = (i : Int) + 1 := IntWalk.i64_in _ (by omega)
      have hi0 : (0 : Int) ≤ (i : Int) := by omega
      clear hj
      go_wp2_with fail
      go_quiet (fail)
      go_wp2_with fail
      exact ⟨⟨i + 1, by omega, by go_num, blw HB.out _⟩, by simp [intOf]; omega⟩
    · obtain rfl : i = n := by omega
      go_wp2_with fail
      go_ret
      exact ⟨rfl, up2 HB0.out HB.out⟩
end Go.Proofs.Ytobdcogaphkogaa

namespace Go.Proofs.Ytobdcogaphkogaa
open Go.RowKit

/-- the program's track and the reference's -/
structure Db (w0 w : World) (b r k : Nat) (d : Dt) (E : List Tl) (L : List Sp) (E2 : List Tl) (L2 : List Sp) : Prop where
  t : ∃ O : Nat → Prop, Tk w O b d E L ∧ (∀ g, O g → w0.heap.size ≤ g) ∧ ¬ O r ∧ ¬ O k
  q : Tq w r k d E2 L2
  rr : w0.heap.size ≤ r
  kk : w0.heap.size ≤ k
  bel : Below w0.heap.size w0 w
/-- blocks of other types than the reference's track's and log's stay -/
def OthQ (w w' : World) : Prop := ∀ (g T : Nat) (cs : Array Value), Has w g T cs → T ≠ 40 → T ≠ 65 → Has w' g T cs
section
variable {w0 w1 w w' : World} {O O' : Nat → Prop} {b p r k : Nat} {d : Dt} {E E2 E' : List Tl} {L L2 L' : List Sp} {la : Option Addr} {lc : Nat} {tv sv : Value}
theorem TkX.keepI (h : TkX w O b p d E L la lc tv sv) (hk : Kp O' w w') (hi : ∀ g cs, Has w g 3 cs → Has w' g 3 cs) (hn : ∀ g, O g → ¬ O' g) : TkX w' O b p d E L la lc tv sv := by
  have hb : ∀ g, O g → w'.heap[g]? = w.heap[g]? := fun g hg => hk.block g (h.lt g hg) (hn g hg)
  have hl : w'.ownsRow 0 3 1 (.slice la d.ls.length lc) d.ls.length (d.ls.flatMap inC) := by
    refine ⟨h.log.lns.1, ?_⟩
    rcases h.log.lns.2 with q | ⟨g, cap, cur, e, q3, q4, q5⟩
    · exact .inl q
    · exact .inr ⟨g, cap, cur, e, q3, hi g cur q4, q5⟩
  exact ⟨⟨(hb p h.inp).trans h.log.has, hl, own_keep15 h.log.own fun g hg => hb g (h.int g hg), h.log.fine, h.log.nil0⟩, (hb b h.inb).trans h.has, own_keep15 h.own fun g hg => hb g (h.ins g hg), h.fine, h.inb, h.inp, h.int, h.ins, fun g hg => Nat.lt_of_lt_of_le (h.lt g hg) hk.size, h.un⟩
theorem Tq.heads (h : Tq w r k d E L) : (∃ cs, Has w r 40 cs) ∧ ∃ cs, Has w k 65 cs := by
  obtain ⟨sv, h⟩ := h
  obtain ⟨la, lc, tv, hq⟩ := h.log
  exact ⟨⟨_, h.has⟩, ⟨_, hq.has⟩⟩
theorem OthQ.of (h : Tq w r k d E L) (hk : Kp (fun g => g = r ∨ g = k) w w') : OthQ w w' := fun g T cs hh h1 h2 => by
  obtain ⟨⟨cr, hr⟩, ⟨ck, hk2⟩⟩ := h.heads
  exact hk.has hh fun e => e.elim (fun e => (hh.ne hr h1) e) (fun e => (hh.ne hk2 h2) e)
theorem Db.of (h1 : Tf w0 w1 b d E L) (h2 : Tq w r k d E2 L2) (hb : Below w1.heap.size w1 w) (hr : w1.heap.size ≤ r) (hk : w1.heap.size ≤ k) : Db w0 w b r k d E L E2 L2 :=
  ⟨⟨Fr w0 w1, h1.tk.up hb, fun _ q => q.1, fun q => by have := q.2; omega, fun q => by have := q.2; omega⟩, h2, Nat.le_trans h1.bel.size hr, Nat.le_trans h1.bel.size hk, up2 h1.bel hb⟩
theorem Db.up (h : Db w0 w b r k d E L E2 L2) (q : Below w.heap.size w w') : Db w0 w' b r k d E L E2 L2 := by
  obtain ⟨⟨O, h1, h2, h3, h4⟩, hq, hr, hk, hb⟩ := h
  exact ⟨⟨O, h1.up q, h2, h3, h4⟩, hq.up q, hr, hk, up2 hb q⟩
theorem Db.left (h : Db w0 w b r k d E L E2 L2) : ∃ O, Tk w O b d E L ∧ ∀ w' E' L', TkR w O b d E' L' w' → Db w0 w' b r k d E' L' E2 L2 ∧ Oth15 w w' := by
  obtain ⟨⟨O, h1, h2, h3, h4⟩, hq, hr, hk, hb⟩ := h
  obtain ⟨⟨cr, hcr⟩, ⟨ck, hck⟩⟩ := hq.heads
  have lr := hcr.lt
  have lk := hck.lt
  refine ⟨O, h1, fun w' E' L' z => ⟨⟨⟨Nw O w w', z.1, fun g q => ?_, fun q => ?_, fun q => ?_⟩, hq.oth z.2.2, hr, hk, hb.trans (z.2.1.below hb.size h2)⟩, z.2.2⟩⟩
  · rcases q with q | q
    · exact h2 g q
    · exact Nat.le_trans hb.size q.1
  · rcases q with q | q
    · exact h3 q
    · omega
  · rcases q with q | q
    · exact h4 q
    · omega
theorem Db.right (h : Db w0 w b r k d E L E2 L2) (z : TqR w r k d E' L' w') : Db w0 w' b r k d E L E' L' ∧ OthQ w w' := by
  obtain ⟨⟨O, h1, h2, h3, h4⟩, hq, hr, hk, hb⟩ := h
  have hO := OthQ.of hq z.2
  obtain ⟨p, la, lc, tv, sv, hx⟩ := h1
  refine ⟨⟨⟨O, ⟨p, la, lc, tv, sv, hx.keepI z.2 (fun g cs hh => hO g _ cs hh (by decide) (by decide)) fun g hg e => ?_⟩, h2, h3, h4⟩, z.1, hr, hk, hb.trans (z.2.below hb.size fun g e => ?_)⟩, hO⟩
  · rcases e with rfl | rfl
    · exact h3 hg
    · exact h4 hg
  · rcases e with rfl | rfl
    · exact hr
    · exact hk
theorem Db.do (h : Db w0 w b r k d E L E2 L2) (x : Op3) (hn : Am x.n) : Calls Try.prog 10 #[.pointer (some ⟨b, 0, none⟩), x.val] w fun e w' => e = .returned (.int .i64 (stE d E L x)) ∧ Db w0 w' b r k d (stT d E x) (stL d E L x) E2 L2 ∧ Oth15 w w' := by
  obtain ⟨O1, h1, h2⟩ := h.left
  exact (do15_any h1 x hn).mono fun _ w' q => ⟨q.1, h2 w' _ _ q.2⟩
theorem Db.qonward (h : Db w0 w b r k d E L E2 L2) (day n : Int) (hn : Am n) : Calls Try.prog 12 #[.pointer (some ⟨r, 0, none⟩), .int .i64 day, .int .i64 n] w fun e w' => e = .returned (.int .i64 (onwE d E2 L2 day n)) ∧ Db w0 w' b r k d E L E2 (onwS d E2 L2 day n) ∧ OthQ w w' := by
  obtain ⟨sv, hq⟩ := h.q
  exact (qonward_any hq day n hn).mono fun _ w' q => ⟨q.1, h.right q.2⟩
theorem Db.qafresh (h : Db w0 w b r k d E L E2 L2) (day n : Int) (hn : Am n) : Calls Try.prog 13 #[.pointer (some ⟨r, 0, none⟩), .int .i64 day, .int .i64 n] w fun e w' => e = .returned (.int .i64 (afrE L2 day n)) ∧ Db w0 w' b r k d E L E2 (afrS L2 day n) ∧ OthQ w w' := by
  obtain ⟨sv, hq⟩ := h.q
  exact (qafresh_any hq day n hn).mono fun _ w' q => ⟨q.1, h.right q.2⟩
theorem Db.qtold (h : Db w0 w b r k d E L E2 L2) : w.cell? ⟨r, 0, none⟩ = some (.pointer (some ⟨k, 0, none⟩)) ∧ ∀ day n, Am n → Calls Try.prog 11 #[.pointer (some ⟨k, 0, none⟩), .int .i64 day, .int .i64 n] w fun e w' => e = .returned (.int .i64 (telE d.me E2 day n)) ∧ Db w0 w' b r k d E L (telS d.me E2 day n) L2 ∧ OthQ w w' := by
  obtain ⟨sv, hq⟩ := h.q
  exact ⟨by simpa using hq.has.cell 0, fun day n hn => (qtold_any hq day n hn).mono fun _ w' q => ⟨q.1, h.right q.2⟩⟩
/-- both, read: the log's block is p -/
structure Dp (w : World) (b p r k : Nat) (d : Dt) (E : List Tl) (L : List Sp) : Prop where
  t : ∃ O la lc tv sv, TkX w O b p d E L la lc tv sv
  q : ∃ sv, TqX w r k d E L sv
theorem Db.read (h : Db w0 w b r k d E L E L) : ∃ p, Dp w b p r k d E L := by
  obtain ⟨⟨O, ⟨p, la, lc, tv, sv, hx⟩, _⟩, hq, _⟩ := h
  exact ⟨p, ⟨O, la, lc, tv, sv, hx⟩, hq⟩
theorem Dp.up (h : Dp w b p r k d E L) (q : Below w.heap.size w w') : Dp w' b p r k d E L := by
  obtain ⟨⟨O, la, lc, tv, sv, hx⟩, ⟨s2, hq⟩⟩ := h
  exact ⟨⟨O, la, lc, tv, sv, hx.up q⟩, ⟨s2, hq.up q⟩⟩
theorem Dp.cell (h : Dp w b p r k d E L) : w.cell? ⟨b, 0, none⟩ = some (.pointer (some ⟨p, 0, none⟩)) := by
  obtain ⟨⟨O, la, lc, tv, sv, hx⟩, _⟩ := h
  simpa using hx.has.cell 0
theorem Dp.earned (h : Dp w b p r k d E L) (day : Int) : Calls Try.prog 14 #[.pointer (some ⟨b, 0, none⟩), .int .i64 day] w fun e w' => e = .returned (.int .i64 (earV d E L day)) ∧ Below w.heap.size w w' := by
  obtain ⟨⟨O, la, lc, tv, sv, hx⟩, _⟩ := h; exact tearned_any hx day
theorem Dp.allot (h : Dp w b p r k d E L) : Calls Try.prog 16 #[.pointer (some ⟨b, 0, none⟩)] w fun e w' => e = .returned (.int .i64 (altV L)) ∧ Below w.heap.size w w' := by
  obtain ⟨⟨O, la, lc, tv, sv, hx⟩, _⟩ := h; exact tallot_any hx
theorem Dp.since (h : Dp w b p r k d E L) : Calls Try.prog 20 #[.pointer (some ⟨b, 0, none⟩)] w fun e w' => e = .returned (.int .i64 (lastS L).fr) ∧ Below w.heap.size w w' := by
  obtain ⟨⟨O, la, lc, tv, sv, hx⟩, _⟩ := h; exact tsince_any hx
theorem Dp.whole (h : Dp w b p r k d E L) (day : Int) : Calls Try.prog 18 #[.pointer (some ⟨b, 0, none⟩), .int .i64 day] w fun e w' => e = .returned (.bool (thrV d E day == thrW d)) ∧ Below w.heap.size w w' := by
  obtain ⟨⟨O, la, lc, tv, sv, hx⟩, _⟩ := h; exact twhole_any hx day
theorem Dp.duty (h : Dp w b p r k d E L) (h2 : d.ls.length ≤ 17592186044416) : Calls Try.prog 23 #[.pointer (some ⟨p, 0, none⟩)] w (CopR14 w d) := by
  obtain ⟨⟨O, la, lc, tv, sv, hx⟩, _⟩ := h; exact duty_any hx.log h2
theorem Dp.qearned (h : Dp w b p r k d E L) (day : Int) : Calls Try.prog 15 #[.pointer (some ⟨r, 0, none⟩), .int .i64 day] w fun e w' => e = .returned (.int .i64 (earV d E L day)) ∧ Below w.heap.size w w' := by
  obtain ⟨_, ⟨s2, hq⟩⟩ := h; exact qearned_any hq day
theorem Dp.qallot (h : Dp w b p r k d E L) : Calls Try.prog 17 #[.pointer (some ⟨r, 0, none⟩)] w fun e w' => e = .returned (.int .i64 (altV L)) ∧ Below w.heap.size w w' := by
  obtain ⟨_, ⟨s2, hq⟩⟩ := h; exact qallot_any hq
theorem Dp.qsince (h : Dp w b p r k d E L) : Calls Try.prog 21 #[.pointer (some ⟨r, 0, none⟩)] w fun e w' => e = .returned (.int .i64 (lastS L).fr) ∧ Below w.heap.size w w' := by
  obtain ⟨_, ⟨s2, hq⟩⟩ := h; exact qsince_any hq
theorem Dp.qwhole (h : Dp w b p r k d E L) (day : Int) : Calls Try.prog 19 #[.pointer (some ⟨r, 0, none⟩), .int .i64 day] w fun e w' => e = .returned (.bool (thrV d E day == thrW d)) ∧ Below w.heap.size w w' := by
  obtain ⟨_, ⟨s2, hq⟩⟩ := h; exact qwhole_any hq day
/-- all that is asked of both, by letters -/
theorem dp_reads (d : Dt) (E : List Tl) (L : List Sp) (b p r k : Nat) (B day : Int) : ∃ (e1 e2 e3 e5 : Int) (bo : Bool),
    ((∀ W, Dp W b p r k d E L → Calls Try.prog 14 #[.pointer (some ⟨b, 0, none⟩), .int .i64 B] W fun e w' => e = .returned (.int .i64 e1) ∧ Below W.heap.size W w') ∧ (∀ W, Dp W b p r k d E L → Calls Try.prog 15 #[.pointer (some ⟨r, 0, none⟩), .int .i64 B] W fun e w' => e = .returned (.int .i64 e1) ∧ Below W.heap.size W w')) ∧
    ((∀ W, Dp W b p r k d E L → Calls Try.prog 14 #[.pointer (some ⟨b, 0, none⟩), .int .i64 day] W fun e w' => e = .returned (.int .i64 e2) ∧ Below W.heap.size W w') ∧ (∀ W, Dp W b p r k d E L → Calls Try.prog 15 #[.pointer (some ⟨r, 0, none⟩), .int .i64 day] W fun e w' => e = .returned (.int .i64 e2) ∧ Below W.heap.size W w')) ∧
    ((∀ W, Dp W b p r k d E L → Calls Try.prog 16 #[.pointer (some ⟨b, 0, none⟩)] W fun e w' => e = .returned (.int .i64 e3) ∧ Below W.heap.size W w') ∧ (∀ W, Dp W b p r k d E L → Calls Try.prog 17 #[.pointer (some ⟨r, 0, none⟩)] W fun e w' => e = .returned (.int .i64 e3) ∧ Below W.heap.size W w')) ∧
    ((∀ W, Dp W b p r k d E L → Calls Try.prog 18 #[.pointer (some ⟨b, 0, none⟩), .int .i64 day] W fun e w' => e = .returned (.bool bo) ∧ Below W.heap.size W w') ∧ (∀ W, Dp W b p r k d E L → Calls Try.prog 19 #[.pointer (some ⟨r, 0, none⟩), .int .i64 day] W fun e w' => e = .returned (.bool bo) ∧ Below W.heap.size W w')) ∧
    ((∀ W, Dp W b p r k d E L → Calls Try.prog 20 #[.pointer (some ⟨b, 0, none⟩)] W fun e w' => e = .returned (.int .i64 e5) ∧ Below W.heap.size W w') ∧ (∀ W, Dp W b p r k d E L → Calls Try.prog 21 #[.pointer (some ⟨r, 0, none⟩)] W fun e w' => e = .returned (.int .i64 e5) ∧ Below W.heap.size W w')) :=
  ⟨_, _, _, _, _, ⟨fun _ h => h.earned B, fun _ h => h.qearned B⟩, ⟨fun _ h => h.earned day, fun _ h => h.qearned day⟩, ⟨fun _ h => h.allot, fun _ h => h.qallot⟩, ⟨fun _ h => h.whole day, fun _ h => h.qwhole day⟩, ⟨fun _ h => h.since, fun _ h => h.qsince⟩⟩
end
end Go.Proofs.Ytobdcogaphkogaa
