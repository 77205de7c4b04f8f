/- New; a track of a call's own; do. -/
import Derived.Test.YtobdcogaphkogaaTrD
namespace Go.Proofs.Ytobdcogaphkogaa
open Go.RowKit

/-- all blocks that are new -/
abbrev Fr (w0 w : World) : Nat → Prop := fun g => w0.heap.size ≤ g ∧ g < w.heap.size
/-- a track of a call's own, in a world that goes on from another one -/
structure Tf (w0 w : World) (b : Nat) (d : Dt) (E : List Tl) (L : List Sp) : Prop where
  tk : Tk w (Fr w0 w) b d E L
  bel : Below w0.heap.size w0 w
section
variable {w0 w w' : World} {b : Nat} {d : Dt} {E E' : List Tl} {L L' : List Sp}
theorem Tf.step (h : Tf w0 w b d E L) (k : TkR w (Fr w0 w) b d E' L' w') : Tf w0 w' b d E' L' :=
  ⟨k.1.mono (fun _ hg => hg.elim (fun z => ⟨z.1, Nat.lt_of_lt_of_le z.2 k.2.1.size⟩) fun z => ⟨Nat.le_trans h.bel.size z.1, z.2⟩) (fun _ hg => hg.2),
    h.bel.trans (k.2.1.below h.bel.size fun _ q => q.1)⟩
theorem Tf.up (h : Tf w0 w b d E L) (q : Below w.heap.size w w') : Tf w0 w' b d E L := h.step (.same h.tk q)
theorem Tf.fineS (h : Tf w0 w b d E L) : FineS L := h.tk.fineS
theorem Tf.fineT (h : Tf w0 w b d E L) : FineT d E := h.tk.fineT
theorem Tf.onward (h : Tf w0 w b d E L) (day n : Int) (hn : Am n) : Calls Try.prog 24 #[.pointer (some ⟨b, 0, none⟩), .int .i64 day, .int .i64 n] w fun e w' => e = .returned (.int .i64 (onwE d E L day n)) ∧ Tf w0 w' b d E (onwS d E L day n) := by
  obtain ⟨p, la, lc, tv, sv, hx⟩ := h.tk
  exact (tonward_any hx day n hn).mono fun _ _ q => ⟨q.1, h.step q.2⟩
theorem Tf.afresh (h : Tf w0 w b d E L) (day n : Int) (hn : Am n) : Calls Try.prog 26 #[.pointer (some ⟨b, 0, none⟩), .int .i64 day, .int .i64 n] w fun e w' => e = .returned (.int .i64 (afrE L day n)) ∧ Tf w0 w' b d E (afrS L day n) := by
  obtain ⟨p, la, lc, tv, sv, hx⟩ := h.tk
  exact (tafresh_any hx day n hn).mono fun _ _ q => ⟨q.1, h.step q.2⟩
theorem Tf.earned (h : Tf w0 w b d E L) (day : Int) : Calls Try.prog 14 #[.pointer (some ⟨b, 0, none⟩), .int .i64 day] w fun e w' => e = .returned (.int .i64 (earV d E L day)) ∧ Below w.heap.size w w' := by
  obtain ⟨p, la, lc, tv, sv, hx⟩ := h.tk
  exact tearned_any hx day
theorem Tf.allot (h : Tf w0 w b d E L) : Calls Try.prog 16 #[.pointer (some ⟨b, 0, none⟩)] w fun e w' => e = .returned (.int .i64 (altV L)) ∧ Below w.heap.size w w' := by
  obtain ⟨p, la, lc, tv, sv, hx⟩ := h.tk
  exact tallot_any hx
theorem Tf.since (h : Tf w0 w b d E L) : Calls Try.prog 20 #[.pointer (some ⟨b, 0, none⟩)] w fun e w' => e = .returned (.int .i64 (lastS L).fr) ∧ Below w.heap.size w w' := by
  obtain ⟨p, la, lc, tv, sv, hx⟩ := h.tk
  exact tsince_any hx
theorem Tf.whole (h : Tf w0 w b d E L) (day : Int) : Calls Try.prog 18 #[.pointer (some ⟨b, 0, none⟩), .int .i64 day] w fun e w' => e = .returned (.bool (thrV d E day == thrW d)) ∧ Below w.heap.size w w' := by
  obtain ⟨p, la, lc, tv, sv, hx⟩ := h.tk
  exact twhole_any hx day
end
/-- a track of one span -/
theorem Tf.made {w0 w w' : World} {p : Nat} {d : Dt} {n : Int} (hb : Below w0.heap.size w0 w) (hs : Tg w w' p d []) (hp : w.heap.size ≤ p) (h0 : 0 ≤ n) (h1 : n ≤ 9223372036854775807) (hu : d.un ≤ 9223372036854775807) :
    Tf w0 ((w'.alloc (.cells #[.int .i64 0, .int .i64 0, .int .i64 0, .int .i64 n] 58)).alloc (.cells #[.pointer (some ⟨p, 0, none⟩), .slice (some ⟨w'.heap.size, 0, none⟩) 1 1] 51)) (w'.heap.size + 1) d [] [⟨0, 0, 0, n⟩] := by
  obtain ⟨⟨la, lc, tv, hx⟩, hk⟩ := hs
  have hbw : Below w.heap.size w w' := ⟨hk.os, hk.tape, hk.output, hk.size, fun k q => hk.block k q (fun e => by injection e with e; omega)⟩
  have hb1 := boxed w' (.cells #[.int .i64 0, .int .i64 0, .int .i64 0, .int .i64 n] 58)
  have hb2 := boxed (w'.alloc (.cells #[.int .i64 0, .int .i64 0, .int .i64 0, .int .i64 n] 58)) (.cells #[.pointer (some ⟨p, 0, none⟩), .slice (some ⟨w'.heap.size, 0, none⟩) 1 1] 51)
  have e := hx.nil0 rfl
  subst e
  have hs := (Has.fresh w' 58 #[.int .i64 0, .int .i64 0, .int .i64 0, .int .i64 n]).up hb2
  have ht := Has.fresh (w'.alloc (.cells #[.int .i64 0, .int .i64 0, .int .i64 0, .int .i64 n] 58)) 51 #[.pointer (some ⟨p, 0, none⟩), .slice (some ⟨w'.heap.size, 0, none⟩) 1 1]
  rw [show (w'.alloc (.cells #[.int .i64 0, .int .i64 0, .int .i64 0, .int .i64 n] 58)).heap.size = w'.heap.size + 1 by simp] at ht
  have hx2 := (hx.up hb1).up hb2
  have hsz := hb.size
  have hsz2 := hbw.size
  have hplt := hx.lt
  refine ⟨⟨p, la, lc, _, _, ⟨hx2.has, hx2.lns, World.ownsRow_nil _ _ _ _, hx2.fine, fun _ => rfl⟩, ht, ⟨rfl, .inr ⟨w'.heap.size, 1, _, rfl, Nat.zero_le _, hs, Nat.le_refl _, by unfold maxLen; omega, rfl, rfl⟩⟩, FineS.start n h0 h1, ?_, ?_, fun g hg => by simp [Value.ownBlock] at hg, fun g hg => ?_, fun g hg => hg.2, hu⟩, up2 hb (up2 hbw (up2 hb1 hb2))⟩
  · show w0.heap.size ≤ _ ∧ _ < _; simp; omega
  · show w0.heap.size ≤ _ ∧ _ < _; simp; omega
  · have hg : w'.heap.size = g := by simpa [Value.ownBlock] using hg
    subst hg
    show w0.heap.size ≤ _ ∧ _ < _; simp; omega
section
variable {w : World} {d : Dt} {a : Option Addr} {c : Nat}
set_option maxRecDepth 100000 in
set_option maxHeartbeats 2000000 in
theorem trnew_no (n : Int) (h2 : d.ls.length ≤ 17592186044416) (hI : InA w a d.ls) (ha : a = none → c = 0) (hd : dtB d = false ∨ n < 0) : Calls Try.prog 8 #[d.val a c, .int .i64 n] w fun e w' => e = .returned (.tuple #[.pointer none, .int .i64 1]) ∧ Below w.heap.size w w' := by
  have HNo := Lib.hid (fun (W : World) (q : dtB d = false) => tnew_no (w := W) (d := d) (a := a) (c := c) q)
  have HYes := Lib.hid (fun (W : World) (q : dtB d = true) (q2 : Below w.heap.size w W) => tnew_yes (w := W) (d := d) (a := a) (c := c) q h2 (hI.up q2) ha)
  cases hb : dtB d with
  | false =>
    have HN := Lib.hid (fun (W : World) => HNo.out W hb)
    unfold Dt.val at HN ⊢
    generalize d.ls.length = m at HN ⊢
    clear hb HNo HYes hd h2 hI ha
    go_enter Try.func8, Try.ntmps8
    go_wp2_with fail
    refine (HN.out _).mono ?_
    rintro e w1 ⟨rfl, hb⟩
    have HB := Lib.hid (up2 (boxed _ _) hb)
    clear hb
    go_wp2_with fail
    go_ret2
    exact ⟨rfl, HB.out⟩
  | true =>
    have HN := Lib.hid (fun (W : World) (q2 : Below w.heap.size w W) => HYes.out W hb q2)
    have hn : n < 0 := by rcases hd with hd | hd; (rw [hb] at hd; cases hd); exact hd
    unfold Dt.val at HN ⊢
    generalize d.ls.length = m at HN h2 ⊢
    clear hb HNo HYes hd h2 hI ha
    go_enter Try.func8, Try.ntmps8
    go_wp2_with fail
    refine (HN.out _ (boxed _ _)).mono ?_
    rintro e w1 ⟨p, rfl, hs, hp⟩
    have HB := Lib.hid (up2 (boxed _ _) (hs.bel hp))
    clear hs hp
    go_wp2_with fail
    go_ret2
    exact ⟨rfl, HB.out⟩
set_option maxRecDepth 100000 in
set_option maxHeartbeats 2000000 in
theorem trnew_yes (n : Int) (h2 : d.ls.length ≤ 17592186044416) (hI : InA w a d.ls) (ha : a = none → c = 0) (hd : dtB d = true) (h0 : 0 ≤ n) (hn : Am n) (hu : Am d.un) : Calls Try.prog 8 #[d.val a c, .int .i64 n] w fun e w' => ∃ b, e = .returned (.tuple #[.pointer (some ⟨b, 0, none⟩), .int .i64 0]) ∧ Tf w w' b d [] [⟨0, 0, 0, n⟩] := by
  have HN := Lib.hid (fun (W : World) (q2 : Below w.heap.size w W) => tnew_yes (w := W) (d := d) (a := a) (c := c) hd h2 (hI.up q2) ha)
  have HM := Lib.hid (fun (w1 w' : World) (p : Nat) (hb : Below w.heap.size w w1) (hs : Tg w1 w' p d []) (hp : w1.heap.size ≤ p) => Tf.made hb hs hp h0 hn.2 hu.2)
  unfold Dt.val at HN ⊢
  generalize d.ls.length = m at HN h2 ⊢
  clear hd h2 hI ha hu hn
  go_enter Try.func8, Try.ntmps8
  go_wp2_with fail
  refine (HN.out _ (boxed _ _)).mono ?_
  rintro e w1 ⟨p, rfl, hs, hp⟩
  have HF := Lib.hid (HM.out _ _ _ (boxed _ _) hs hp)
  clear hs hp
  go_wp2_with fail
  go_ret2
  exact ⟨_, rfl, HF.out⟩
end
/-- an operation: which one, of a day, and a number -/
structure Op3 where
  k : Int
  dy : Int
  n : Int
def Op3.val (x : Op3) : Value := .agg #[.int .i64 x.k, .int .i64 x.dy, .int .i64 x.n]
def stE (d : Dt) (E : List Tl) (L : List Sp) (x : Op3) : Int := if x.k = 0 then telE d.me E x.dy x.n else if x.k = 1 then onwE d E L x.dy x.n else if x.k = 2 then afrE L x.dy x.n else 0
def stT (d : Dt) (E : List Tl) (x : Op3) : List Tl := if x.k = 0 then telS d.me E x.dy x.n else E
def stL (d : Dt) (E : List Tl) (L : List Sp) (x : Op3) : List Sp := if x.k = 1 then onwS d E L x.dy x.n else if x.k = 2 then afrS L x.dy x.n else L
section
variable {w : World} {O : Nat → Prop} {b : Nat} {d : Dt} {E : List Tl} {L : List Sp}
set_option maxRecDepth 100000 in
set_option maxHeartbeats 4000000 in
theorem do15_any (h : Tk w O b d E L) (x : Op3) (hn : Am x.n) : Calls Try.prog 10 #[.pointer (some ⟨b, 0, none⟩), x.val] w (ChgR w O b d (stT d E x) (stL d E L x) (stE d E L x)) := by
  obtain ⟨p, la, lc, tv, sv, hx⟩ := h
  obtain ⟨k, dy, n⟩ := x
  unfold ChgR Op3.val
  simp only at hn ⊢
  have HT := Lib.hid (fun (W : World) (q : Below w.heap.size w W) => ttell_any (hx.up q) dy n hn)
  have HO := Lib.hid (fun (W : World) (q : Below w.heap.size w W) => tonward_any (hx.up q) dy n hn)
  have HA := Lib.hid (fun (W : World) (q : Below w.heap.size w W) => tafresh_any (hx.up q) dy n hn)
  unfold ChgR at HT HO HA
  have HS := Lib.hid (fun (W : World) (q : Below w.heap.size w W) => TkR.same ⟨p, la, lc, tv, sv, hx⟩ q)
  have HLt := Lib.hid hx.lt
  have c0 := hx.has.cell 0
  simp at c0
  have hlt := hx.has.lt
  by_cases q0 : k = 0
  · rw [show stE d E L ⟨k, dy, n⟩ = telE d.me E dy n by unfold stE; rw [if_pos q0], show stT d E ⟨k, dy, n⟩ = telS d.me E dy n by unfold stT; rw [if_pos q0], show stL d E L ⟨k, dy, n⟩ = L by unfold stL; rw [if_neg (by simp only; omega), if_neg (by simp only; omega)]]
    subst q0
    generalize telE d.me E dy n = X at HT ⊢
    generalize telS d.me E dy n = E' at HT ⊢
    clear hx hn
    go_enter Try.func10, Try.ntmps10
    go_wp2_with fail
    obtain ⟨W0, hW0⟩ : ∃ W0, W0 = w.alloc (.cells #[.int .i64 0, .int .i64 dy, .int .i64 n] 35) := ⟨_, rfl⟩
    have hx : Has W0 w.heap.size 35 #[.int .i64 0, .int .i64 dy, .int .i64 n] := by rw [hW0]; exact Has.fresh _ _ _
    have HB0 : Hid (Below w.heap.size w W0) := by rw [hW0]; exact Lib.hid (boxed _ _)
    rw [← hW0]
    have c0 := kcell HB0.out c0
    have x1 := hx.cell 1
    have x2 := hx.cell 2
    simp at x1 x2
    have HTell := Lib.hid (HT.out W0.drew HB0.out.drew)
    clear hx hW0 hlt
    go_region_with (first | (go_at_call 25; (with_reducible refine (HTell.out).mono ?_); rintro e w3 ⟨rfl, hT3⟩; have kF := Lib.hid (hT3.from HB0.out.drew HLt.out); clear hT3))
    all_goals
      go_wp2_with fail
      go_ret
      exact ⟨rfl, kF.out⟩
  by_cases q1 : k = 1
  · rw [show stE d E L ⟨k, dy, n⟩ = onwE d E L dy n by unfold stE; rw [if_neg q0, if_pos q1], show stT d E ⟨k, dy, n⟩ = E by unfold stT; rw [if_neg q0], show stL d E L ⟨k, dy, n⟩ = onwS d E L dy n by unfold stL; rw [if_pos q1]]
    subst q1
    generalize onwE d E L dy n = X at HO ⊢
    generalize onwS d E L dy n = L' at HO ⊢
    clear hx hn q0
    go_enter Try.func10, Try.ntmps10
    go_wp2_with fail
    refine (HO.out _ (boxed _ _)).mono ?_
    rintro e w1 ⟨rfl, hT⟩
    have HF := Lib.hid (hT.from (boxed _ _) HLt.out)
    clear hT
    go_wp2_with fail
    go_ret
    exact ⟨rfl, HF.out⟩
  by_cases q2 : k = 2
  · rw [show stE d E L ⟨k, dy, n⟩ = afrE L dy n by unfold stE; rw [if_neg q0, if_neg q1, if_pos q2], show stT d E ⟨k, dy, n⟩ = E by unfold stT; rw [if_neg q0], show stL d E L ⟨k, dy, n⟩ = afrS L dy n by unfold stL; rw [if_neg q1, if_pos q2]]
    subst q2
    generalize afrE L dy n = X at HA ⊢
    generalize afrS L dy n = L' at HA ⊢
    clear hx hn q0 q1
    go_enter Try.func10, Try.ntmps10
    go_wp2_with fail
    refine (HA.out _ (boxed _ _)).mono ?_
    rintro e w1 ⟨rfl, hT⟩
    have HF := Lib.hid (hT.from (boxed _ _) HLt.out)
    clear hT
    go_wp2_with fail
    go_ret
    exact ⟨rfl, HF.out⟩
  rw [show stE d E L ⟨k, dy, n⟩ = 0 by unfold stE; rw [if_neg q0, if_neg q1, if_neg q2], show stT d E ⟨k, dy, n⟩ = E by unfold stT; rw [if_neg q0], show stL d E L ⟨k, dy, n⟩ = L by unfold stL; rw [if_neg q1, if_neg q2]]
  have q0' : (k == 0) = false := by simpa using q0
  have q1' : (k == 1) = false := by simpa using q1
  have q2' : (k == 2) = false := by simpa using q2
  clear hx hn q0 q1 q2
  go_enter Try.func10, Try.ntmps10
  go_wp2_with fail
  go_ret
  exact ⟨rfl, HS.out _ (boxed _ _)⟩
theorem Tf.do {w0 : World} (h : Tf w0 w b d E L) (x : Op3) (hn : Am x.n) : Calls Try.prog 10 #[.pointer (some ⟨b, 0, none⟩), x.val] w fun e w' => e = .returned (.int .i64 (stE d E L x)) ∧ Tf w0 w' b d (stT d E x) (stL d E L x) :=
  (do15_any h.tk x hn).mono fun _ _ q => ⟨q.1, h.step q.2⟩
theorem Tf.ptr {w0 : World} (h : Tf w0 w b d E L) : ∃ p, w.cell? ⟨b, 0, none⟩ = some (.pointer (some ⟨p, 0, none⟩)) ∧ (∀ day n, Am n → Calls Try.prog 25 #[.pointer (some ⟨p, 0, none⟩), .int .i64 day, .int .i64 n] w fun e w' => e = .returned (.int .i64 (telE d.me E day n)) ∧ Tf w0 w' b d (telS d.me E day n) L) ∧ (d.ls.length ≤ 17592186044416 → Calls Try.prog 23 #[.pointer (some ⟨p, 0, none⟩)] w (CopR14 w d)) := by
  obtain ⟨p, la, lc, tv, sv, hx⟩ := h.tk
  exact ⟨p, by simpa using hx.has.cell 0, fun day n hn => (ttell_any hx day n hn).mono fun _ _ q => ⟨q.1, h.step q.2⟩, fun q => duty_any hx.log q⟩
end
end Go.Proofs.Ytobdcogaphkogaa
