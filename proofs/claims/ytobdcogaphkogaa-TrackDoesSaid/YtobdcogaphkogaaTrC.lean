/- change, Onward, Afresh. -/
import Derived.Maps.AppendAt
import Derived.Test.YtobdcogaphkogaaTrB
namespace Go.Proofs.Ytobdcogaphkogaa
open Go.RowKit

theorem infoSpan : (Try.prog.info? 58).map (fun i => (i.zero, i.size, i.bytes)) = some (some (.agg #[.int .i64 0, .int .i64 0, .int .i64 0, .int .i64 0]), 4, 32) := by kernel_rfl
/-- why a span isn't added, and what there is then -/
def chgE (L : List Sp) (x : Sp) (n : Int) : Int := if mayS L x.fr ≠ 0 then mayS L x.fr else if n < x.ba then 1 else 0
def chgS (L : List Sp) (x : Sp) (n : Int) : List Sp := if chgE L x n = 0 then L ++ [⟨x.fr, x.og, x.ba, n - x.ba⟩] else L
section
variable {w w' w2 : World} {O : Nat → Prop} {b p : Nat} {d : Dt} {E E2 : List Tl} {L L2 : List Sp} {la : Option Addr} {lc : Nat} {tv sv : Value}
theorem TkR.from (hb : Below w.heap.size w w') (hl : ∀ g, O g → g < w.heap.size) (h : TkR w' O b d E L w2) : TkR w O b d E L w2 :=
  ⟨h.1.mono (fun _ hg => hg.elim .inl fun z => .inr ⟨Nat.le_trans hb.size z.1, z.2⟩) (fun _ hg => hg.elim (fun z => Nat.lt_of_lt_of_le (Nat.lt_of_lt_of_le (hl _ z) hb.size) h.2.1.size) fun z => z.2),
    (Kp.of hb).trans h.2.1 (fun _ q => .inl q), (Oth15.of hb).trans h.2.2⟩
theorem TkR.then (h : TkR w O b d E L w') (hb : Below w'.heap.size w' w2) : TkR w O b d E L w2 :=
  ⟨(h.1.up hb).mono (fun _ hg => hg.imp id fun z => ⟨z.1, Nat.lt_of_lt_of_le z.2 hb.size⟩) (fun _ hg => hg.elim (fun z => Nat.lt_of_lt_of_le (h.1.lt _ (.inl z)) hb.size) fun z => z.2),
    h.2.1.trans (Kp.of (O := O) hb) (fun _ q => .inl q), h.2.2.trans (Oth15.of hb)⟩
/-- a span more -/
theorem TkX.push (h : TkX w O b p d E L la lc tv sv) {x : Sp} (hm : mayS L x.fr = 0) (hx : SpOk x) {y : Nat} (hy : Has w y 58 #[.int .i64 x.fr, .int .i64 x.og, .int .i64 x.ba, .int .i64 x.re]) :
    ∃ a c a' c' w', sv = .slice a L.length c ∧ (Builtin.append_ #[49, 49] 49 #[.slice a L.length c, .slice (some ⟨y, 0, none⟩) 1 1]).run Try.prog w = .ok (.slice a' (L.length + 1) c') w' ∧ w'.cell? ⟨b, 1, none⟩ = some sv ∧ w'.frozen? ⟨b, 1, none⟩ = false ∧ TkR w O b d E (L ++ [x]) (w'.setCell ⟨b, 1, none⟩ (.slice a' (L.length + 1) c')) := by
  obtain ⟨a, c, rfl, _, _⟩ := own_form3 h.own
  obtain ⟨i, hi, hz0, hz1, hz2⟩ := info_parts infoSpan
  have hlen := h.fine.len
  obtain ⟨v', w', hr, ho, hg, _, hat⟩ := run_append_own_at (P := Try.prog) w 0 49 49 58 i _ 4 32 Try.underlying49 hi hz0 hz1 hz2 rfl (by decide) _ L.length _ h.own ⟨y, 0, none⟩ 1 1 (spC x) rfl
    (fun j u hu => by
      rw [addr_off, Nat.zero_add, hy.cell]
      exact (List.getElem?_toArray (xs := spC x) (i := j)).trans hu)
    (fun u hu => by simp [spC] at hu; rcases hu with rfl | rfl | rfl | rfl <;> rfl) (by unfold maxLen; omega) (by omega) (Nat.zero_le _)
  obtain ⟨a', c', rfl⟩ := own_formb ho
  have hbne : (Value.slice a L.length c).ownBlock ≠ some b := own_ne h.own h.has (by decide)
  have hpne : (Value.slice a L.length c).ownBlock ≠ some p := own_ne h.own h.log.has (by decide)
  have hb' : Has w' b 51 _ := (hg.block b h.has.lt (fun e => hbne e.symm)).trans h.has
  have hs := hb'.put 1 (.slice a' (L.length + 1) c')
  have hset := grown_set w' b 1 (.slice a' (L.length + 1) c')
  have hl1 := h.log.off hg (fun e => hpne e.symm) (own_two h.log.lns h.own (by decide)) (own_two h.log.own h.own (by decide))
  have hl2 := hl1.off hset (fun e => hl1.has.ne hb' (by decide) (by injection e)) (.inr (own_ne hl1.lns hb' (by decide))) (.inr (own_ne hl1.own hb' (by decide)))
  have hsz : w'.heap.size ≤ (w'.setCell ⟨b, 1, none⟩ (.slice a' (L.length + 1) c')).heap.size := hset.size
  have hk : Kp O w (w'.setCell ⟨b, 1, none⟩ (.slice a' (L.length + 1) c')) := (Kp.grown (O := O) hg (fun j hj => .inl (h.ins j hj))).trans (Kp.set w' _ _ (O := O) h.inb) (fun _ q => .inl q)
  refine ⟨a, c, a', c', w', rfl, hr, ?_, hb'.free 1, ⟨⟨p, la, lc, tv, _, hl2, hs, ?_, h.fine.app (may_zero hm).2.2.2 hx (may_zero hm).2.2.1, .inl h.inb, .inl h.inp, fun g hg => .inl (h.int g hg), fun g hg' => ?_, fun g hg => ?_, h.un⟩, hk, (Oth15.row h.own (.inr (.inr (.inr rfl))) hg).trans (Oth15.put hb' (.inr (.inr (.inl rfl))) _ _)⟩⟩
  · have := hb'.cell 1; simpa using this
  · have := own_beside ho hb' (by decide) hset
    rw [List.length_append, List.flatMap_append]
    simpa using this
  · rcases hat with e | e
    · exact .inl (h.ins g (e ▸ hg'))
    · rw [e] at hg'
      injection hg' with hg'
      subst hg'
      exact .inr ⟨Nat.le_refl _, Nat.lt_of_lt_of_le (ho.lt _ e).2 hsz⟩
  · exact hg.elim (fun z => Nat.lt_of_lt_of_le (h.lt g z) hk.size) fun z => z.2
/-- what a change answers, and leaves -/
def ChgR (w : World) (O : Nat → Prop) (b : Nat) (d : Dt) (E : List Tl) (L : List Sp) (X : Int) (e : Ending) (w' : World) : Prop := e = .returned (.int .i64 X) ∧ TkR w O b d E L w'
set_option maxRecDepth 100000 in
set_option maxHeartbeats 4000000 in
theorem tchange_any (h : TkX w O b p d E L la lc tv sv) (x : Sp) (n : Int) (hn : Am n) (ho : x.og = 0 ∨ x.og = x.fr) (hba : 0 ≤ x.ba) (hba2 : Am x.ba) : Calls Try.prog 41 #[.pointer (some ⟨b, 0, none⟩), x.val, .int .i64 n] w (ChgR w O b d E (chgS L x n) (chgE L x n)) := by
  unfold ChgR
  have HSame := Lib.hid (fun (w' : World) (q : Below w.heap.size w w') => TkR.same ⟨p, la, lc, tv, sv, h⟩ q)
  have HH := Lib.hid h
  have HSi := Lib.hid (fun (W : World) (q : Below w.heap.size w W) => tsince_any (h.up q))
  have hl := h.fine.len
  obtain ⟨f, o, ba, r⟩ := x
  unfold Sp.val
  simp only at ho hba hba2 ⊢
  have HO := Lib.hid ho
  obtain ⟨s, hs⟩ : ∃ s, s = (lastS L).fr := ⟨_, rfl⟩
  have HS := Lib.hid hs
  rw [← hs] at HSi
  obtain ⟨a0, c0, hsv, _⟩ := own_form3 h.own
  have hc1 := h.has.cell 1
  simp at hc1
  rw [hsv] at hc1
  obtain ⟨k, hk⟩ : ∃ k, k = L.length := ⟨_, rfl⟩
  have HK := Lib.hid hk
  rw [← hk] at hc1 hl
  have HC1 := Lib.hid hc1
  have HSV := Lib.hid hsv
  have HL := Lib.hid (fun (W : World) => less_calls n ba W hn.1 hn.2 hba2.1 hba2.2)
  have e0 : ∀ X, chgE L ⟨f, o, ba, r⟩ n = X → X ≠ 0 → chgS L ⟨f, o, ba, r⟩ n = L := fun X h1 h2 => by unfold chgS; rw [if_neg (by rw [h1]; exact h2)]
  have HE0 := Lib.hid e0
  clear h hs hk hsv hc1 ho e0
  go_enter Try.func41, Try.ntmps41
  have HX := Lib.hid (Has.fresh w 58 #[.int .i64 f, .int .i64 o, .int .i64 ba, .int .i64 r])
  by_cases q1 : f < 0 ∨ 1000000 < f
  · have hE : chgE L ⟨f, o, ba, r⟩ n = 1 := by unfold chgE mayS; simp only; rw [if_pos q1]; simp
    have HE := Lib.hid hE
    clear hE
    rcases q1 with q1 | q1
    · go_wp2_with fail
      go_ret
      exact ⟨by rw [HE.out]; rfl, by rw [HE0.out _ HE.out (by decide)]; exact HSame.out _ (boxed _ _)⟩
    · have q2 : ¬ f < 0 := by omega
      go_wp2_with fail
      go_ret
      exact ⟨by rw [HE.out]; rfl, by rw [HE0.out _ HE.out (by decide)]; exact HSame.out _ (boxed _ _)⟩
  have q1a : ¬ f < 0 := by omega
  have q1b : ¬ 1000000 < f := by omega
  have Q1 := Lib.hid q1
  clear q1
  go_wp2_with fail
  obtain ⟨W0, hW0⟩ : ∃ W0, W0 = w.alloc (.cells #[.int .i64 f, .int .i64 o, .int .i64 ba, .int .i64 r] 58) := ⟨_, rfl⟩
  rw [← hW0] at HX
  have HB0 : Hid (Below w.heap.size w W0) := by rw [hW0]; exact Lib.hid (boxed _ _)
  rw [← hW0]
  obtain ⟨y, hy⟩ : ∃ y, y = w.heap.size := ⟨_, rfl⟩
  rw [← hy] at HX ⊢
  have HCall := Lib.hid (HSi.out W0.drew HB0.out.drew)
  have K0 : Hid (W0.drew.cell? ⟨y, 0, none⟩ = some (.int .i64 f)) := Lib.hid (HX.out.cell 0)
  have HYe := Lib.hid hy
  clear hW0 hy
  go_region_held3 (fun w' => w'.cell? ⟨y, 0, none⟩ = some (.int .i64 f))
    (first | (go_keep; done) | (with_reducible exact K0.out) | (with_reducible exact kK1.out))
    (first | (go_at_call 20; (with_reducible refine (HCall.out).mono ?_); rintro e w3 ⟨rfl, hb3⟩; have kK1 : Hid (w3.cell? ⟨y, 0, none⟩ = some (.int .i64 f)) := Lib.hid (kcell hb3 K0.out); have kB3 := Lib.hid (up2 HB0.out.drew hb3); have kX3 := Lib.hid ((HX.out.up (Below.refl _ _).drew).up hb3); clear hb3))
  all_goals
    by_cases q3 : f < s
    · have hm : mayS L f = 11 := by unfold mayS; rw [if_neg Q1.out, if_pos (show f < (lastS L).fr by rw [← HS.out]; exact q3)]
      have hE : chgE L ⟨f, o, ba, r⟩ n = 11 := by unfold chgE; simp only; rw [hm]; rfl
      have HE := Lib.hid hE
      clear hE hm
      go_wp2_with fail
      go_ret
      exact ⟨by rw [HE.out]; rfl, by rw [HE0.out _ HE.out (by decide)]; exact HSame.out _ kB3.out⟩
    have hx := kX3.out
    have x0 := hx.cell 0
    have x1 := hx.cell 1
    have x2 := hx.cell 2
    have x3 := hx.cell 3
    have xf := hx.free 3
    simp at x0 x1 x2 x3
    have c1 := kcell kB3.out HC1.out
    by_cases q4 : k = 50
    · have hm : mayS L f = 4 := by unfold mayS; rw [if_neg Q1.out, if_neg (show ¬ f < (lastS L).fr by rw [← HS.out]; exact q3), if_pos (by rw [← HK.out]; omega)]
      have hE : chgE L ⟨f, o, ba, r⟩ n = 4 := by unfold chgE; simp only; rw [hm]; rfl
      have HE := Lib.hid hE
      have q4' : ((k : Int) == 50) = true := by simp; omega
      clear hE hx hm
      go_wp2_with fail
      go_ret
      exact ⟨by rw [HE.out]; rfl, by rw [HE0.out _ HE.out (by decide)]; exact HSame.out _ kB3.out⟩
    have hm : mayS L f = 0 := by unfold mayS; rw [if_neg Q1.out, if_neg (show ¬ f < (lastS L).fr by rw [← HS.out]; exact q3), if_neg (by rw [← HK.out]; omega)]
    have HM := Lib.hid hm
    have q4' : ((k : Int) == 50) = false := by simp; omega
    clear q4 hm
    by_cases q5 : n < ba
    · have hE : chgE L ⟨f, o, ba, r⟩ n = 1 := by unfold chgE; simp only; rw [HM.out]; simp [q5]
      have HE := Lib.hid hE
      clear hE hx
      go_wp2_with fail
      go_ret
      exact ⟨by rw [HE.out]; rfl, by rw [HE0.out _ HE.out (by decide)]; exact HSame.out _ kB3.out⟩
    have hE : chgE L ⟨f, o, ba, r⟩ n = 0 := by unfold chgE; simp only; rw [HM.out]; simp [q5]
    have hA : Am (n - ba) := by unfold Am at hn hba2 ⊢; omega
    have hL2 := HL
    rw [tellV_in hA, tellE_in hA] at hL2
    have HL2 := hL2
    have HE := Lib.hid hE
    have HQ5 := Lib.hid q5
    have HHN := Lib.hid hn
    clear hE hx hL2 hn hba2 hA HL
    go_wp2_with fail
    refine (HL2.out _).mono ?_
    rintro e w4 ⟨rfl, hb4⟩
    have hx := kX3.out.up hb4
    have x0 := hx.cell 0
    have x1 := hx.cell 1
    have x2 := hx.cell 2
    have x3 := hx.cell 3
    have xf := hx.free 3
    simp at x0 x1 x2 x3
    have HB4 := Lib.hid (up2 kB3.out hb4)
    have HX4 := Lib.hid hx
    clear hb4 hx c1
    go_wp2_with fail
    obtain ⟨W5, hW5⟩ : ∃ W5, W5 = w4.setCell ⟨y, 3, none⟩ (.int .i64 (n - ba)) := ⟨_, rfl⟩
    have hx5 : Has W5 y 58 #[.int .i64 f, .int .i64 o, .int .i64 ba, .int .i64 (n - ba)] := by rw [hW5]; exact HX4.out.put 3 _
    have hb5 : Below w.heap.size w W5 := by rw [hW5]; exact HB4.out.grown (grown_set w4 y 3 _) HB4.out.size (fun j hj => by injection hj with hj; have := HYe.out; omega)
    rw [← hW5]
    obtain ⟨WA, hWA⟩ : ∃ WA, WA = (W5.alloc (.cells #[.int .i64 f, .int .i64 o, .int .i64 ba, .int .i64 (n - ba)] 58)).drew := ⟨_, rfl⟩
    have hbA : Below w.heap.size w WA := by rw [hWA]; exact (up2 hb5 (boxed _ _)).drew
    have hok : SpOk ⟨f, o, ba, n - ba⟩ := ⟨by simp only; omega, by simp only; omega, HO.out, hba, by have := HQ5.out; simp only; omega, by have := HHN.out.2; simp only; omega⟩
    obtain ⟨a, c, a', c', w6, e1, hr, g1, g2, hT⟩ := (HH.out.up hbA).push (x := ⟨f, o, ba, n - ba⟩) HM.out hok (y := W5.heap.size) (by rw [hWA]; exact Has.fresh W5 _ _)
    rw [HSV.out] at e1
    injection e1 with e1 _ e3
    subst e1; subst e3
    rw [← HK.out] at hr hT
    rw [HSV.out, ← HK.out] at g1
    have x0 := hx5.cell 0
    have x1 := hx5.cell 1
    have x2 := hx5.cell 2
    have x3 := hx5.cell 3
    simp at x0 x1 x2 x3
    have c1 := kcell hb5 HC1.out
    have d1 : WA.cell? ⟨b, 1, none⟩ = some (.slice a0 k c0) := by
      have hq : Below W5.heap.size W5 WA := by rw [hWA]; exact (boxed _ _).drew
      exact kcell hq c1
    have hlt5 := World.block_lt_of_cell? (a := ⟨b, 1, none⟩) _ c1
    rw [hWA] at d1
    have HR := Lib.hid hr
    have HT := Lib.hid (hT.from hbA HH.out.lt)
    have HSC : Hid (chgS L ⟨f, o, ba, r⟩ n = L ++ [⟨f, o, ba, n - ba⟩]) := Lib.hid (by unfold chgS; rw [if_pos HE.out])
    have HWA := Lib.hid hWA
    clear hT hr hWA hx5 hb5 hbA hok hW5
    go_region_law (first
      | (refine step_run (by rfl) (.tmp 46) (.tmp 48) 49 (by rfl) _ _ (by rfl) (by rfl) (S := fun u q => u = .slice a' (k + 1) c' ∧ q = w6) ⟨_, w6, (by first | exact HR.out | (rw [← HWA.out]; exact HR.out)), rfl, rfl⟩ ?_; rintro u q ⟨rfl, rfl⟩))
    all_goals
      go_wp2_with fail
      go_ret
      exact ⟨by rw [HE.out]; rfl, by rw [HSC.out]; exact HT.out⟩
end
end Go.Proofs.Ytobdcogaphkogaa
