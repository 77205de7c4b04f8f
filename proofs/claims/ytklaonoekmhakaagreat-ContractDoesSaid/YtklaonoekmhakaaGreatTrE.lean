/- Onward, Afresh; Tell; New. -/
import Derived.Test.YtklaonoekmhakaaGreatTrC
namespace Go.Proofs.YtklaonoekmhakaaGreat
open Go.RowKit

section
variable {w w' w2 : World} {O : Nat → Prop} {b p : Nat} {d : Dt} {E : List Tl} {L : List Sp} {la : Option Addr} {lc : Nat} {tv sv : Value}
theorem onw_chg (d : Dt) (E : List Tl) (L : List Sp) (day n : Int) : onwE d E L day n = chgE L ⟨day, day, earV d E L day, 0⟩ n ∧ onwS d E L day n = chgS L ⟨day, day, earV d E L day, 0⟩ n := ⟨rfl, rfl⟩
theorem afr_chg (L : List Sp) (day n : Int) : afrE L day n = chgE L ⟨day, 0, 0, 0⟩ n ∧ afrS L day n = chgS L ⟨day, 0, 0, 0⟩ n := ⟨rfl, by
  unfold afrS chgS
  have : chgE L ⟨day, 0, 0, 0⟩ n = afrE L day n := rfl
  rw [this]
  simp only [Int.sub_zero]⟩
set_option maxRecDepth 100000 in
set_option maxHeartbeats 2000000 in
theorem tonward_any (h : TkX w O b p d E L la lc tv sv) (day n : Int) (hn : Am n) : Calls Tryz.prog 57 #[.pointer (some ⟨b, 0, none⟩), .int .i64 day, .int .i64 n] w (ChgR w O b d E (onwS d E L day n) (onwE d E L day n)) := by
  rw [(onw_chg d E L day n).1, (onw_chg d E L day n).2]
  have HE := Lib.hid (tearned_any h day)
  have hv := earV_in h.log.fine h.fine day
  have HC := Lib.hid (fun (W : World) (q : Below w.heap.size w W) => tchange_any (h.up q) ⟨day, day, earV d E L day, 0⟩ n hn (.inr rfl) hv.1 (by unfold Am; simp only; omega))
  have HLt := Lib.hid h.lt
  unfold Sp.val at HC
  unfold ChgR at HC ⊢
  generalize chgE L ⟨day, day, earV d E L day, 0⟩ n = X at HC ⊢
  generalize chgS L ⟨day, day, earV d E L day, 0⟩ n = L' at HC ⊢
  generalize earV d E L day = v at HE HC
  simp only at HC
  clear h hn hv
  go_enter Tryz.func57, Tryz.ntmps57
  go_wp2_with fail
  refine HE.out.mono ?_
  rintro e w1 ⟨rfl, hb⟩
  have HB := Lib.hid hb
  clear hb
  go_wp2_with fail
  refine (HC.out _ HB.out).mono ?_
  rintro e w2 ⟨rfl, hT⟩
  have HT := Lib.hid (hT.from HB.out HLt.out)
  clear hT
  go_wp2_with fail
  go_ret
  exact ⟨rfl, HT.out⟩
set_option maxRecDepth 100000 in
set_option maxHeartbeats 2000000 in
theorem tafresh_any (h : TkX w O b p d E L la lc tv sv) (day n : Int) (hn : Am n) : Calls Tryz.prog 61 #[.pointer (some ⟨b, 0, none⟩), .int .i64 day, .int .i64 n] w (ChgR w O b d E (afrS L day n) (afrE L day n)) := by
  rw [(afr_chg L day n).1, (afr_chg L day n).2]
  have HC := Lib.hid (tchange_any h ⟨day, 0, 0, 0⟩ n hn (.inl rfl) (Int.le_refl _) (by unfold Am; simp only; omega))
  unfold Sp.val at HC
  unfold ChgR at HC ⊢
  generalize chgE L ⟨day, 0, 0, 0⟩ n = X at HC ⊢
  generalize chgS L ⟨day, 0, 0, 0⟩ n = L' at HC ⊢
  simp only at HC
  clear h hn
  go_enter Tryz.func61, Tryz.ntmps61
  go_wp2_with fail
  refine HC.out.mono ?_
  rintro e w2 ⟨rfl, hT⟩
  have HT := Lib.hid hT
  clear hT
  go_wp2_with fail
  go_ret
  exact ⟨rfl, HT.out⟩
/-- one more that is told -/
theorem TkX.told (h : TkX w O b p d E L la lc tv sv) {day n : Int} (h0 : telE d.me E day n = 0) {y : Nat} (hy : Has w y 165 #[.int .i64 day, .int .i64 n]) :
    ∃ a c a' c' w', w.cell? ⟨p, 6, none⟩ = some (.slice a E.length c) ∧ (Builtin.append_ #[152, 152] 152 #[.slice a E.length c, .slice (some ⟨y, 0, none⟩) 1 1]).run Tryz.prog w = .ok (.slice a' (E.length + 1) c') w' ∧ w'.cell? ⟨p, 6, none⟩ = some (.slice a E.length c) ∧ w'.frozen? ⟨p, 6, none⟩ = false ∧ TkR w O b d (E ++ [(day, n)]) L (w'.setCell ⟨p, 6, none⟩ (.slice a' (E.length + 1) c')) := by
  have hx := h.log
  obtain ⟨a, c, rfl, _, _⟩ := own_form3 hx.own
  obtain ⟨i, hi, hz0, hz1, hz2⟩ := info_parts infoEvent
  have hlen := hx.fine.len
  obtain ⟨v', w', hr, ho, hg, _, hat⟩ := run_append_own_at (P := Tryz.prog) w 0 152 152 165 i _ 2 16 Tryz.underlying152 hi hz0 hz1 hz2 rfl (by decide) _ E.length _ hx.own ⟨y, 0, none⟩ 1 1 (tlC (day, n)) rfl
    (fun j u hu => by
      rw [addr_off, Nat.zero_add, hy.cell]
      exact (List.getElem?_toArray (xs := tlC (day, n)) (i := j)).trans hu)
    (fun u hu => by simp [tlC] at hu; rcases hu with rfl | rfl <;> rfl) (by unfold maxLen; omega) (by omega) (Nat.zero_le _)
  obtain ⟨a', c', rfl⟩ := own_formb ho
  have hpne : (Value.slice a E.length c).ownBlock ≠ some p := own_ne hx.own hx.has (by decide)
  have hbne : (Value.slice a E.length c).ownBlock ≠ some b := own_ne hx.own h.has (by decide)
  have hp' : Has w' p 154 _ := (hg.block p hx.has.lt (fun e => hpne e.symm)).trans hx.has
  have hb' : Has w' b 101 _ := (hg.block b h.has.lt (fun e => hbne e.symm)).trans h.has
  have hl' := hx.lns.kept hg (own_two hx.lns hx.own (by decide))
  have hs := hp'.put 6 (.slice a' (E.length + 1) c')
  have hset := grown_set w' p 6 (.slice a' (E.length + 1) c')
  have hsz : w'.heap.size ≤ (w'.setCell ⟨p, 6, none⟩ (.slice a' (E.length + 1) c')).heap.size := hset.size
  have hbs : Has (w'.setCell ⟨p, 6, none⟩ (.slice a' (E.length + 1) c')) b 101 _ := (hset.block b hb'.lt (fun e => hb'.ne hp' (by decide) (by injection e))).trans hb'
  have hos := own_beside (h.own.kept hg (own_two h.own hx.own (by decide))) hp' (by decide) hset
  have hk : Kp O w (w'.setCell ⟨p, 6, none⟩ (.slice a' (E.length + 1) c')) := (Kp.grown (O := O) hg (fun j hj => .inl (h.int j hj))).trans (Kp.set w' _ _ (O := O) h.inp) (fun _ q => .inl q)
  refine ⟨a, c, a', c', w', ?_, hr, ?_, hp'.free 6, ⟨⟨p, la, lc, _, sv, ⟨hs, own_beside hl' hp' (by decide) hset, ?_, hx.fine.more h0, fun e => by simp at e⟩, hbs, hos, h.fine, .inl h.inb, .inl h.inp, fun g hg' => ?_, fun g hg => .inl (h.ins g hg), fun g hg => ?_, h.un⟩, hk, (Oth15.row hx.own (.inr (.inl rfl)) hg).trans (Oth15.put hp' (.inl rfl) _ _)⟩⟩
  · have := hx.has.cell 6; simpa using this
  · have := hp'.cell 6; simpa using this
  · have := own_beside ho hp' (by decide) hset
    rw [List.length_append, List.flatMap_append]
    simpa using this
  · rcases hat with e | e
    · exact .inl (h.int g (e ▸ hg'))
    · rw [e] at hg'
      injection hg' with hg'
      subst hg'
      exact .inr ⟨Nat.le_refl _, Nat.lt_of_lt_of_le (ho.lt _ e).2 hsz⟩
  · exact hg.elim (fun z => Nat.lt_of_lt_of_le (h.lt g z) hk.size) fun z => z.2
set_option maxRecDepth 100000 in
set_option maxHeartbeats 2000000 in
theorem ttell_any (h : TkX w O b p d E L la lc tv sv) (day n : Int) (hn : Am n) : Calls Tryz.prog 62 #[.pointer (some ⟨p, 0, none⟩), .int .i64 day, .int .i64 n] w (ChgR w O b d (telS d.me E day n) L (telE d.me E day n)) := by
  unfold ChgR
  have HC := Lib.hid (check_any14 h.log day n hn)
  unfold ChkR at HC
  have HH := Lib.hid h
  have HLt := Lib.hid h.lt
  obtain ⟨X, hX⟩ : ∃ X, X = telE d.me E day n := ⟨_, rfl⟩
  rw [← hX] at HC ⊢
  have HX := Lib.hid hX
  obtain ⟨S, hS⟩ : ∃ S, S = telS d.me E day n := ⟨_, rfl⟩
  rw [← hS]
  have HS := Lib.hid hS
  clear h hX hS hn
  go_enter Tryz.func62, Tryz.ntmps62
  go_wp2_with fail
  refine HC.out.mono ?_
  rintro e w1 ⟨rfl, hb⟩
  have HB := Lib.hid hb
  have HT := Lib.hid (HH.out.up hb)
  clear hb
  by_cases q : X = 0
  · have hS2 : S = E ++ [(day, n)] := by rw [HS.out]; exact tel_app (by rw [← HX.out]; exact q)
    obtain ⟨W1, hW1⟩ : ∃ W1, W1 = w1.alloc (.cells #[.int .i64 day, .int .i64 n] 165) := ⟨_, rfl⟩
    have hT1 : TkX W1 O b p d E L la lc tv sv := by rw [hW1]; exact HT.out.up (boxed _ _)
    obtain ⟨a, c, a', c', w5, g1, hr, g3, g4, hT5⟩ := hT1.told (HX.out.symm.trans q) (y := w1.heap.size) (by rw [hW1]; exact Has.fresh _ _ _)
    have hB1 : Below w.heap.size w W1 := by rw [hW1]; exact up2 HB.out (boxed _ _)
    have k1 : w1.cell? ⟨p, 6, none⟩ = some (.slice a E.length c) := by
      have := HT.out.log.lt
      rw [hW1] at g1
      have e : (w1.alloc (.cells #[.int .i64 day, .int .i64 n] 165)).cell? ⟨p, 6, none⟩ = w1.cell? ⟨p, 6, none⟩ := (boxed w1 (.cells #[.int .i64 day, .int .i64 n] 165)).cell (p := ⟨p, 6, none⟩) this
      rw [← e]; exact g1
    have HR := Lib.hid hr
    have HW1 := Lib.hid hW1
    have HT5 := Lib.hid (hT5.from hB1 HLt.out)
    generalize E.length = L at k1 HR g1 g3 HT5
    have HQ := Lib.hid q
    rw [q]
    clear g1 hr hT1 hT5 q hW1 hB1
    go_wp2_with (first | (rw [← HW1.out]; refine wpList_run (o := ⟨some 24, _, _, _, _, _⟩) rfl (.tmp 19) (.tmp 23) 152 rfl _ _ rfl rfl (S := fun u q => u = .slice a' (L + 1) c' ∧ q = w5) ⟨_, w5, HR.out, rfl, rfl⟩ ?_; rintro u q ⟨rfl, rfl⟩) | fail)
    go_ret
    exact ⟨by rw [HQ.out]; rfl, by rw [hS2]; exact HT5.out⟩
  · have hS2 : S = E := by rw [HS.out]; exact tel_not (by rw [← HX.out]; exact q)
    have q' : (X != 0) = true := by simpa using q
    clear q
    go_wp2_with fail
    go_ret
    exact ⟨rfl, by rw [hS2]; exact TkR.same ⟨p, la, lc, tv, sv, HH.out⟩ HB.out⟩
end
end Go.Proofs.YtklaonoekmhakaaGreat

namespace Go.Proofs.YtklaonoekmhakaaGreat
open Go.RowKit

/-- all blocks that are new -/
abbrev Fr (w0 w : World) : Nat → Prop := fun g => w0.heap.size ≤ g ∧ g < w.heap.size
/-- a track of a call's own, in a world that goes on from another one -/
structure Tf (w0 w : World) (b : Nat) (d : Dt) (E : List Tl) (L : List Sp) : Prop where
  tk : Tk w (Fr w0 w) b d E L
  bel : Below w0.heap.size w0 w
section
variable {w0 w w' : World} {b : Nat} {d : Dt} {E E' : List Tl} {L L' : List Sp}
theorem Tf.step (h : Tf w0 w b d E L) (k : TkR w (Fr w0 w) b d E' L' w') : Tf w0 w' b d E' L' :=
  ⟨k.1.mono (fun _ hg => hg.elim (fun z => ⟨z.1, Nat.lt_of_lt_of_le z.2 k.2.1.size⟩) fun z => ⟨Nat.le_trans h.bel.size z.1, z.2⟩) (fun _ hg => hg.2),
    h.bel.trans (k.2.1.below h.bel.size fun _ q => q.1)⟩
theorem Tf.up (h : Tf w0 w b d E L) (q : Below w.heap.size w w') : Tf w0 w' b d E L := h.step (.same h.tk q)
theorem Tf.onward (h : Tf w0 w b d E L) (day n : Int) (hn : Am n) : Calls Tryz.prog 57 #[.pointer (some ⟨b, 0, none⟩), .int .i64 day, .int .i64 n] w fun e w' => e = .returned (.int .i64 (onwE d E L day n)) ∧ Tf w0 w' b d E (onwS d E L day n) := by
  obtain ⟨p, la, lc, tv, sv, hx⟩ := h.tk
  exact (tonward_any hx day n hn).mono fun _ _ q => ⟨q.1, h.step q.2⟩
theorem Tf.afresh (h : Tf w0 w b d E L) (day n : Int) (hn : Am n) : Calls Tryz.prog 61 #[.pointer (some ⟨b, 0, none⟩), .int .i64 day, .int .i64 n] w fun e w' => e = .returned (.int .i64 (afrE L day n)) ∧ Tf w0 w' b d E (afrS L day n) := by
  obtain ⟨p, la, lc, tv, sv, hx⟩ := h.tk
  exact (tafresh_any hx day n hn).mono fun _ _ q => ⟨q.1, h.step q.2⟩
theorem Tf.earned (h : Tf w0 w b d E L) (day : Int) : Calls Tryz.prog 48 #[.pointer (some ⟨b, 0, none⟩), .int .i64 day] w fun e w' => e = .returned (.int .i64 (earV d E L day)) ∧ Below w.heap.size w w' := by
  obtain ⟨p, la, lc, tv, sv, hx⟩ := h.tk
  exact tearned_any hx day
theorem Tf.allot (h : Tf w0 w b d E L) : Calls Tryz.prog 46 #[.pointer (some ⟨b, 0, none⟩)] w fun e w' => e = .returned (.int .i64 (altV L)) ∧ Below w.heap.size w w' := by
  obtain ⟨p, la, lc, tv, sv, hx⟩ := h.tk
  exact tallot_any hx
theorem Tf.whole (h : Tf w0 w b d E L) (day : Int) : Calls Tryz.prog 94 #[.pointer (some ⟨b, 0, none⟩), .int .i64 day] w fun e w' => e = .returned (.bool (thrV d E day == thrW d)) ∧ Below w.heap.size w w' := by
  obtain ⟨p, la, lc, tv, sv, hx⟩ := h.tk
  exact twhole_any hx day
end
/-- a track of one span -/
theorem Tf.made {w0 w w' : World} {p : Nat} {d : Dt} {n : Int} (hb : Below w0.heap.size w0 w) (hs : Tg w w' p d []) (hp : w.heap.size ≤ p) (h0 : 0 ≤ n) (h1 : n ≤ 9223372036854775807) (hu : d.un ≤ 9223372036854775807) :
    Tf w0 ((w'.alloc (.cells #[.int .i64 0, .int .i64 0, .int .i64 0, .int .i64 n] 147)).alloc (.cells #[.pointer (some ⟨p, 0, none⟩), .slice (some ⟨w'.heap.size, 0, none⟩) 1 1] 101)) (w'.heap.size + 1) d [] [⟨0, 0, 0, n⟩] := by
  obtain ⟨⟨la, lc, tv, hx⟩, hk⟩ := hs
  have hbw : Below w.heap.size w w' := ⟨hk.os, hk.tape, hk.output, hk.size, fun k q => hk.block k q (fun e => by injection e with e; omega)⟩
  have hb1 := boxed w' (.cells #[.int .i64 0, .int .i64 0, .int .i64 0, .int .i64 n] 147)
  have hb2 := boxed (w'.alloc (.cells #[.int .i64 0, .int .i64 0, .int .i64 0, .int .i64 n] 147)) (.cells #[.pointer (some ⟨p, 0, none⟩), .slice (some ⟨w'.heap.size, 0, none⟩) 1 1] 101)
  have e := hx.nil0 rfl
  subst e
  have hs := (Has.fresh w' 147 #[.int .i64 0, .int .i64 0, .int .i64 0, .int .i64 n]).up hb2
  have ht := Has.fresh (w'.alloc (.cells #[.int .i64 0, .int .i64 0, .int .i64 0, .int .i64 n] 147)) 101 #[.pointer (some ⟨p, 0, none⟩), .slice (some ⟨w'.heap.size, 0, none⟩) 1 1]
  rw [show (w'.alloc (.cells #[.int .i64 0, .int .i64 0, .int .i64 0, .int .i64 n] 147)).heap.size = w'.heap.size + 1 by simp] at ht
  have hx2 := (hx.up hb1).up hb2
  have hsz := hb.size
  have hsz2 := hbw.size
  have hplt := hx.lt
  refine ⟨⟨p, la, lc, _, _, ⟨hx2.has, hx2.lns, World.ownsRow_nil _ _ _ _, hx2.fine, fun _ => rfl⟩, ht, ⟨rfl, .inr ⟨w'.heap.size, 1, _, rfl, Nat.zero_le _, hs, Nat.le_refl _, by unfold maxLen; omega, rfl, rfl⟩⟩, FineS.start n h0 h1, ?_, ?_, fun g hg => by simp [Value.ownBlock] at hg, fun g hg => ?_, fun g hg => hg.2, hu⟩, up2 hb (up2 hbw (up2 hb1 hb2))⟩
  · show w0.heap.size ≤ _ ∧ _ < _; simp; omega
  · show w0.heap.size ≤ _ ∧ _ < _; simp; omega
  · have hg : w'.heap.size = g := by simpa [Value.ownBlock] using hg
    subst hg
    show w0.heap.size ≤ _ ∧ _ < _; simp; omega
section
variable {w : World} {d : Dt} {a : Option Addr} {c : Nat}
set_option maxRecDepth 100000 in
set_option maxHeartbeats 2000000 in
theorem trnew_yes (n : Int) (h2 : d.ls.length ≤ 17592186044416) (hI : InA w a d.ls) (ha : a = none → c = 0) (hd : dtB d = true) (h0 : 0 ≤ n) (hn : Am n) (hu : Am d.un) : Calls Tryz.prog 103 #[d.val a c, .int .i64 n] w fun e w' => ∃ b, e = .returned (.tuple #[.pointer (some ⟨b, 0, none⟩), .int .i64 0]) ∧ Tf w w' b d [] [⟨0, 0, 0, n⟩] := by
  have HN := Lib.hid (fun (W : World) (q2 : Below w.heap.size w W) => tnew_yes (w := W) (d := d) (a := a) (c := c) hd h2 (hI.up q2) ha)
  have HM := Lib.hid (fun (w1 w' : World) (p : Nat) (hb : Below w.heap.size w w1) (hs : Tg w1 w' p d []) (hp : w1.heap.size ≤ p) => Tf.made hb hs hp h0 hn.2 hu.2)
  unfold Dt.val at HN ⊢
  generalize d.ls.length = m at HN h2 ⊢
  clear hd h2 hI ha hu hn
  go_enter Tryz.func103, Tryz.ntmps103
  go_wp2_with fail
  refine (HN.out _ (boxed _ _)).mono ?_
  rintro e w1 ⟨p, rfl, hs, hp⟩
  have HF := Lib.hid (HM.out _ _ _ (boxed _ _) hs hp)
  clear hs hp
  go_wp2_with fail
  go_ret2
  exact ⟨_, rfl, HF.out⟩
end
/-- an operation: which one, of a day, and a number -/
structure Op3 where
  k : Int
  dy : Int
  n : Int
def Op3.val (x : Op3) : Value := .agg #[.int .i64 x.k, .int .i64 x.dy, .int .i64 x.n]
def stE (d : Dt) (E : List Tl) (L : List Sp) (x : Op3) : Int := if x.k = 0 then telE d.me E x.dy x.n else if x.k = 1 then onwE d E L x.dy x.n else if x.k = 2 then afrE L x.dy x.n else 0
def stT (d : Dt) (E : List Tl) (x : Op3) : List Tl := if x.k = 0 then telS d.me E x.dy x.n else E
def stL (d : Dt) (E : List Tl) (L : List Sp) (x : Op3) : List Sp := if x.k = 1 then onwS d E L x.dy x.n else if x.k = 2 then afrS L x.dy x.n else L
section
variable {w : World} {O : Nat → Prop} {b : Nat} {d : Dt} {E : List Tl} {L : List Sp}
theorem Tf.ptr {w0 : World} (h : Tf w0 w b d E L) : ∃ p, w.cell? ⟨b, 0, none⟩ = some (.pointer (some ⟨p, 0, none⟩)) ∧ (∀ day n, Am n → Calls Tryz.prog 62 #[.pointer (some ⟨p, 0, none⟩), .int .i64 day, .int .i64 n] w fun e w' => e = .returned (.int .i64 (telE d.me E day n)) ∧ Tf w0 w' b d (telS d.me E day n) L) ∧ (d.ls.length ≤ 17592186044416 → Calls Tryz.prog 49 #[.pointer (some ⟨p, 0, none⟩)] w (CopR14 w d)) := by
  obtain ⟨p, la, lc, tv, sv, hx⟩ := h.tk
  exact ⟨p, by simpa using hx.has.cell 0, fun day n hn => (ttell_any hx day n hn).mono fun _ _ q => ⟨q.1, h.step q.2⟩, fun q => duty_any hx.log q⟩
end
end Go.Proofs.YtklaonoekmhakaaGreat
