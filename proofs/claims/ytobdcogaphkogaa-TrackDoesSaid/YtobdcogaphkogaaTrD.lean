/- Onward, Afresh; Tell; New. -/
import Derived.Test.YtobdcogaphkogaaTrC
namespace Go.Proofs.Ytobdcogaphkogaa
open Go.RowKit

section
variable {w w' w2 : World} {O : Nat → Prop} {b p : Nat} {d : Dt} {E : List Tl} {L : List Sp} {la : Option Addr} {lc : Nat} {tv sv : Value}
theorem onw_chg (d : Dt) (E : List Tl) (L : List Sp) (day n : Int) : onwE d E L day n = chgE L ⟨day, day, earV d E L day, 0⟩ n ∧ onwS d E L day n = chgS L ⟨day, day, earV d E L day, 0⟩ n := ⟨rfl, rfl⟩
theorem afr_chg (L : List Sp) (day n : Int) : afrE L day n = chgE L ⟨day, 0, 0, 0⟩ n ∧ afrS L day n = chgS L ⟨day, 0, 0, 0⟩ n := ⟨rfl, by
  unfold afrS chgS
  have : chgE L ⟨day, 0, 0, 0⟩ n = afrE L day n := rfl
  rw [this]
  simp only [Int.sub_zero]⟩
set_option maxRecDepth 100000 in
set_option maxHeartbeats 2000000 in
theorem tonward_any (h : TkX w O b p d E L la lc tv sv) (day n : Int) (hn : Am n) : Calls Try.prog 24 #[.pointer (some ⟨b, 0, none⟩), .int .i64 day, .int .i64 n] w (ChgR w O b d E (onwS d E L day n) (onwE d E L day n)) := by
  rw [(onw_chg d E L day n).1, (onw_chg d E L day n).2]
  have HE := Lib.hid (tearned_any h day)
  have hv := earV_in h.log.fine h.fine day
  have HC := Lib.hid (fun (W : World) (q : Below w.heap.size w W) => tchange_any (h.up q) ⟨day, day, earV d E L day, 0⟩ n hn (.inr rfl) hv.1 (by unfold Am; simp only; omega))
  have HLt := Lib.hid h.lt
  unfold Sp.val at HC
  unfold ChgR at HC ⊢
  generalize chgE L ⟨day, day, earV d E L day, 0⟩ n = X at HC ⊢
  generalize chgS L ⟨day, day, earV d E L day, 0⟩ n = L' at HC ⊢
  generalize earV d E L day = v at HE HC
  simp only at HC
  clear h hn hv
  go_enter Try.func24, Try.ntmps24
  go_wp2_with fail
  refine HE.out.mono ?_
  rintro e w1 ⟨rfl, hb⟩
  have HB := Lib.hid hb
  clear hb
  go_wp2_with fail
  refine (HC.out _ HB.out).mono ?_
  rintro e w2 ⟨rfl, hT⟩
  have HT := Lib.hid (hT.from HB.out HLt.out)
  clear hT
  go_wp2_with fail
  go_ret
  exact ⟨rfl, HT.out⟩
set_option maxRecDepth 100000 in
set_option maxHeartbeats 2000000 in
theorem tafresh_any (h : TkX w O b p d E L la lc tv sv) (day n : Int) (hn : Am n) : Calls Try.prog 26 #[.pointer (some ⟨b, 0, none⟩), .int .i64 day, .int .i64 n] w (ChgR w O b d E (afrS L day n) (afrE L day n)) := by
  rw [(afr_chg L day n).1, (afr_chg L day n).2]
  have HC := Lib.hid (tchange_any h ⟨day, 0, 0, 0⟩ n hn (.inl rfl) (Int.le_refl _) (by unfold Am; simp only; omega))
  unfold Sp.val at HC
  unfold ChgR at HC ⊢
  generalize chgE L ⟨day, 0, 0, 0⟩ n = X at HC ⊢
  generalize chgS L ⟨day, 0, 0, 0⟩ n = L' at HC ⊢
  simp only at HC
  clear h hn
  go_enter Try.func26, Try.ntmps26
  go_wp2_with fail
  refine HC.out.mono ?_
  rintro e w2 ⟨rfl, hT⟩
  have HT := Lib.hid hT
  clear hT
  go_wp2_with fail
  go_ret
  exact ⟨rfl, HT.out⟩
/-- one more that is told -/
theorem TkX.told (h : TkX w O b p d E L la lc tv sv) {day n : Int} (h0 : telE d.me E day n = 0) {y : Nat} (hy : Has w y 87 #[.int .i64 day, .int .i64 n]) :
    ∃ a c a' c' w', w.cell? ⟨p, 6, none⟩ = some (.slice a E.length c) ∧ (Builtin.append_ #[82, 82] 82 #[.slice a E.length c, .slice (some ⟨y, 0, none⟩) 1 1]).run Try.prog w = .ok (.slice a' (E.length + 1) c') w' ∧ w'.cell? ⟨p, 6, none⟩ = some (.slice a E.length c) ∧ w'.frozen? ⟨p, 6, none⟩ = false ∧ TkR w O b d (E ++ [(day, n)]) L (w'.setCell ⟨p, 6, none⟩ (.slice a' (E.length + 1) c')) := by
  have hx := h.log
  obtain ⟨a, c, rfl, _, _⟩ := own_form3 hx.own
  obtain ⟨i, hi, hz0, hz1, hz2⟩ := info_parts infoEvent
  have hlen := hx.fine.len
  obtain ⟨v', w', hr, ho, hg, _, hat⟩ := run_append_own_at (P := Try.prog) w 0 82 82 87 i _ 2 16 Try.underlying82 hi hz0 hz1 hz2 rfl (by decide) _ E.length _ hx.own ⟨y, 0, none⟩ 1 1 (tlC (day, n)) rfl
    (fun j u hu => by
      rw [addr_off, Nat.zero_add, hy.cell]
      exact (List.getElem?_toArray (xs := tlC (day, n)) (i := j)).trans hu)
    (fun u hu => by simp [tlC] at hu; rcases hu with rfl | rfl <;> rfl) (by unfold maxLen; omega) (by omega) (Nat.zero_le _)
  obtain ⟨a', c', rfl⟩ := own_formb ho
  have hpne : (Value.slice a E.length c).ownBlock ≠ some p := own_ne hx.own hx.has (by decide)
  have hbne : (Value.slice a E.length c).ownBlock ≠ some b := own_ne hx.own h.has (by decide)
  have hp' : Has w' p 84 _ := (hg.block p hx.has.lt (fun e => hpne e.symm)).trans hx.has
  have hb' : Has w' b 51 _ := (hg.block b h.has.lt (fun e => hbne e.symm)).trans h.has
  have hl' := hx.lns.kept hg (own_two hx.lns hx.own (by decide))
  have hs := hp'.put 6 (.slice a' (E.length + 1) c')
  have hset := grown_set w' p 6 (.slice a' (E.length + 1) c')
  have hsz : w'.heap.size ≤ (w'.setCell ⟨p, 6, none⟩ (.slice a' (E.length + 1) c')).heap.size := hset.size
  have hbs : Has (w'.setCell ⟨p, 6, none⟩ (.slice a' (E.length + 1) c')) b 51 _ := (hset.block b hb'.lt (fun e => hb'.ne hp' (by decide) (by injection e))).trans hb'
  have hos := own_beside (h.own.kept hg (own_two h.own hx.own (by decide))) hp' (by decide) hset
  have hk : Kp O w (w'.setCell ⟨p, 6, none⟩ (.slice a' (E.length + 1) c')) := (Kp.grown (O := O) hg (fun j hj => .inl (h.int j hj))).trans (Kp.set w' _ _ (O := O) h.inp) (fun _ q => .inl q)
  refine ⟨a, c, a', c', w', ?_, hr, ?_, hp'.free 6, ⟨⟨p, la, lc, _, sv, ⟨hs, own_beside hl' hp' (by decide) hset, ?_, hx.fine.more h0, fun e => by simp at e⟩, hbs, hos, h.fine, .inl h.inb, .inl h.inp, fun g hg' => ?_, fun g hg => .inl (h.ins g hg), fun g hg => ?_, h.un⟩, hk, (Oth15.row hx.own (.inr (.inl rfl)) hg).trans (Oth15.put hp' (.inl rfl) _ _)⟩⟩
  · have := hx.has.cell 6; simpa using this
  · have := hp'.cell 6; simpa using this
  · have := own_beside ho hp' (by decide) hset
    rw [List.length_append, List.flatMap_append]
    simpa using this
  · rcases hat with e | e
    · exact .inl (h.int g (e ▸ hg'))
    · rw [e] at hg'
      injection hg' with hg'
      subst hg'
      exact .inr ⟨Nat.le_refl _, Nat.lt_of_lt_of_le (ho.lt _ e).2 hsz⟩
  · exact hg.elim (fun z => Nat.lt_of_lt_of_le (h.lt g z) hk.size) fun z => z.2
set_option maxRecDepth 100000 in
set_option maxHeartbeats 2000000 in
theorem ttell_any (h : TkX w O b p d E L la lc tv sv) (day n : Int) (hn : Am n) : Calls Try.prog 25 #[.pointer (some ⟨p, 0, none⟩), .int .i64 day, .int .i64 n] w (ChgR w O b d (telS d.me E day n) L (telE d.me E day n)) := by
  unfold ChgR
  have HC := Lib.hid (check_any14 h.log day n hn)
  unfold ChkR at HC
  have HH := Lib.hid h
  have HLt := Lib.hid h.lt
  obtain ⟨X, hX⟩ : ∃ X, X = telE d.me E day n := ⟨_, rfl⟩
  rw [← hX] at HC ⊢
  have HX := Lib.hid hX
  obtain ⟨S, hS⟩ : ∃ S, S = telS d.me E day n := ⟨_, rfl⟩
  rw [← hS]
  have HS := Lib.hid hS
  clear h hX hS hn
  go_enter Try.func25, Try.ntmps25
  go_wp2_with fail
  refine HC.out.mono ?_
  rintro e w1 ⟨rfl, hb⟩
  have HB := Lib.hid hb
  have HT := Lib.hid (HH.out.up hb)
  clear hb
  by_cases q : X = 0
  · have hS2 : S = E ++ [(day, n)] := by rw [HS.out]; exact tel_app (by rw [← HX.out]; exact q)
    obtain ⟨W1, hW1⟩ : ∃ W1, W1 = w1.alloc (.cells #[.int .i64 day, .int .i64 n] 87) := ⟨_, rfl⟩
    have hT1 : TkX W1 O b p d E L la lc tv sv := by rw [hW1]; exact HT.out.up (boxed _ _)
    obtain ⟨a, c, a', c', w5, g1, hr, g3, g4, hT5⟩ := hT1.told (HX.out.symm.trans q) (y := w1.heap.size) (by rw [hW1]; exact Has.fresh _ _ _)
    have hB1 : Below w.heap.size w W1 := by rw [hW1]; exact up2 HB.out (boxed _ _)
    have k1 : w1.cell? ⟨p, 6, none⟩ = some (.slice a E.length c) := by
      have := HT.out.log.lt
      rw [hW1] at g1
      have e : (w1.alloc (.cells #[.int .i64 day, .int .i64 n] 87)).cell? ⟨p, 6, none⟩ = w1.cell? ⟨p, 6, none⟩ := (boxed w1 (.cells #[.int .i64 day, .int .i64 n] 87)).cell (p := ⟨p, 6, none⟩) this
      rw [← e]; exact g1
    have HR := Lib.hid hr
    have HW1 := Lib.hid hW1
    have HT5 := Lib.hid (hT5.from hB1 HLt.out)
    generalize E.length = L at k1 HR g1 g3 HT5
    have HQ := Lib.hid q
    rw [q]
    clear g1 hr hT1 hT5 q hW1 hB1
    go_wp2_with (first | (rw [← HW1.out]; refine wpList_run (o := ⟨some 24, _, _, _, _, _⟩) rfl (.tmp 19) (.tmp 23) 82 rfl _ _ rfl rfl (S := fun u q => u = .slice a' (L + 1) c' ∧ q = w5) ⟨_, w5, HR.out, rfl, rfl⟩ ?_; rintro u q ⟨rfl, rfl⟩) | fail)
    go_ret
    exact ⟨by rw [HQ.out]; rfl, by rw [hS2]; exact HT5.out⟩
  · have hS2 : S = E := by rw [HS.out]; exact tel_not (by rw [← HX.out]; exact q)
    have q' : (X != 0) = true := by simpa using q
    clear q
    go_wp2_with fail
    go_ret
    exact ⟨rfl, by rw [hS2]; exact TkR.same ⟨p, la, lc, tv, sv, HH.out⟩ HB.out⟩
end
end Go.Proofs.Ytobdcogaphkogaa
