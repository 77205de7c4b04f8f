/- Tell. -/
import Derived.Test.YtobdcogaphkogaaDnC
namespace Go.Proofs.Ytobdcogaphkogaa
open Go.RowKit

theorem infoEvent : (Try.prog.info? 87).map (fun i => (i.zero, i.size, i.bytes)) = some (some (.agg #[.int .i64 0, .int .i64 0]), 2, 16) := by kernel_rfl
/-- blocks of other types stay -/
def Oth (w w' : World) : Prop := ∀ (g T : Nat) (cs : Array Value), Has w g T cs → T ≠ 84 → T ≠ 87 → Has w' g T cs
theorem Oth.of {w w' : World} (h : Below w.heap.size w w') : Oth w w' := fun _ _ _ hh _ _ => hh.up h
theorem Oth.trans {w w1 w2 : World} (h : Oth w w1) (h2 : Oth w1 w2) : Oth w w2 := fun g T cs hh a b => h2 g T cs (h g T cs hh a b) a b
theorem Oth.own {w w' : World} (h : Oth w w') {B T z n : Nat} {v : Value} {xs : List Value} (ho : w.ownsRow B T z v n xs) (h1 : T ≠ 84) (h2 : T ≠ 87) : w'.ownsRow B T z v n xs := by
  refine ⟨ho.1, ?_⟩
  rcases ho.2 with q | ⟨g, cap, cur, e, h3, h4, h5⟩
  · exact .inl q
  · exact .inr ⟨g, cap, cur, e, h3, h g T cur h4 h1 h2, h5⟩
theorem Oth.grown {w w' : World} {v : Value} {B n z : Nat} {xs : List Value} (ho : w.ownsRow B 87 z v n xs) (q : w.grownBy w' v.ownBlock) : Oth w w' := fun g _ _ hh _ h2 =>
  (q.block g hh.lt (fun e => own_ne ho hh (Ne.symm h2) e.symm)).trans hh
theorem Oth.put {w : World} {p : Nat} {cs : Array Value} (hp : Has w p 84 cs) (i : Nat) (v : Value) : Oth w (w.setCell ⟨p, i, none⟩ v) := fun g T cs' hh h1 _ =>
  ((grown_set w p i v).block g hh.lt (fun e => hh.ne hp h1 (by injection e))).trans hh
/-- what Tell answers, and leaves -/
def TelR (w0 : World) (p : Nat) (d : Dt) (E : List Tl) (day n : Int) (e : Ending) (w' : World) : Prop := e = .returned (.int .i64 (telE d.me E day n)) ∧ Tg w0 w' p d (telS d.me E day n)
/-- .. and what stays -/
def TelO (w0 w : World) (p : Nat) (d : Dt) (E : List Tl) (day n : Int) (e : Ending) (w' : World) : Prop := TelR w0 p d E day n e w' ∧ Oth w w'
section
variable {w0 w : World} {p : Nat} {d : Dt} {E : List Tl}
/-- one more that is told -/
theorem Tg.more (h : Tg w0 w p d E) {day n : Int} (h0 : telE d.me E day n = 0) {y : Nat} (hy : Has w y 87 #[.int .i64 day, .int .i64 n]) :
    ∃ a c a' c' w', w.cell? ⟨p, 6, none⟩ = some (.slice a E.length c) ∧ w.frozen? ⟨p, 6, none⟩ = false ∧ (Builtin.append_ #[82, 82] 82 #[.slice a E.length c, .slice (some ⟨y, 0, none⟩) 1 1]).run Try.prog w = .ok (.slice a' (E.length + 1) c') w' ∧ w'.cell? ⟨p, 6, none⟩ = some (.slice a E.length c) ∧ w'.frozen? ⟨p, 6, none⟩ = false ∧ Tg w0 (w'.setCell ⟨p, 6, none⟩ (.slice a' (E.length + 1) c')) p d (E ++ [(day, n)]) ∧ Oth w (w'.setCell ⟨p, 6, none⟩ (.slice a' (E.length + 1) c')) := by
  obtain ⟨⟨la, lc, tv, hx⟩, hk⟩ := h
  obtain ⟨a, c, rfl, _, _⟩ := own_form3 hx.own
  obtain ⟨i, hi, hz0, hz1, hz2⟩ := info_parts infoEvent
  have hlen := hx.fine.len
  obtain ⟨v', w', hr, ho, hg, _, hat⟩ := run_append_own_at (P := Try.prog) w w0.heap.size 82 82 87 i _ 2 16 Try.underlying82 hi hz0 hz1 hz2 rfl (by decide) _ E.length _ hx.own ⟨y, 0, none⟩ 1 1 (tlC (day, n)) rfl
    (fun j u hu => by
      rw [addr_off, Nat.zero_add, hy.cell]
      exact (List.getElem?_toArray (xs := tlC (day, n)) (i := j)).trans hu)
    (fun u hu => by simp [tlC] at hu; rcases hu with rfl | rfl <;> rfl) (by unfold maxLen; omega) (by omega) hk.size
  obtain ⟨a', c', rfl⟩ := own_formb ho
  have hpne : some p ≠ (Value.slice a E.length c).ownBlock := fun e => own_ne hx.own hx.has (by decide) e.symm
  have hp' : Has w' p 84 _ := (hg.block p hx.has.lt hpne).trans hx.has
  have hl' := hx.lns.kept hg (own_two hx.lns hx.own (by decide))
  have hs := hp'.put 6 (.slice a' (E.length + 1) c')
  have hset := grown_set w' p 6 (.slice a' (E.length + 1) c')
  refine ⟨a, c, a', c', w', ?_, hx.has.free 6, hr, ?_, hp'.free 6, ⟨⟨la, lc, _, hs, own_beside hl' hp' (by decide) hset, ?_, hx.fine.more h0, fun e => by simp at e⟩, ?_⟩, (Oth.grown hx.own hg).trans (Oth.put hp' 6 _)⟩
  · have := hx.has.cell 6; simpa using this
  · have := hp'.cell 6; simpa using this
  · have := own_beside ho hp' (by decide) hset
    rw [List.length_append, List.flatMap_append]
    simpa using this
  · have h1 : w0.grownBy w' (some p) := ⟨hg.os.trans hk.os, hg.tape.trans hk.tape, hg.output.trans hk.output, Nat.le_trans hk.size hg.size, fun k hk1 hne => by
      rw [← hk.block k hk1 hne]
      refine hg.block k (Nat.lt_of_lt_of_le hk1 hk.size) (fun e => ?_)
      have := (hx.own.lt k e.symm).1
      omega⟩
    exact grown_trans h1 hset
set_option maxRecDepth 100000 in
set_option maxHeartbeats 2000000 in
theorem tell_oth (h : Tg w0 w p d E) (day n : Int) (hn : Am n) : Calls Try.prog 25 #[.pointer (some ⟨p, 0, none⟩), .int .i64 day, .int .i64 n] w (TelO w0 w p d E day n) := by
  unfold TelO TelR
  have HC : Hid (Calls Try.prog 42 #[.pointer (some ⟨p, 0, none⟩), .int .i64 day, .int .i64 n] w (ChkR w (telE d.me E day n))) := by
    obtain ⟨⟨la, lc, tv, hx⟩, _⟩ := h
    exact Lib.hid (check_any14 hx day n hn)
  have HH := Lib.hid h
  obtain ⟨X, hX⟩ : ∃ X, X = telE d.me E day n := ⟨_, rfl⟩
  rw [← hX] at HC ⊢
  have HX := Lib.hid hX
  obtain ⟨S, hS⟩ : ∃ S, S = telS d.me E day n := ⟨_, rfl⟩
  rw [← hS]
  have HS := Lib.hid hS
  clear h hX hS hn
  go_enter Try.func25, Try.ntmps25
  go_wp2_with fail
  refine HC.out.mono ?_
  rintro e w1 ⟨rfl, hb⟩
  have HT := Lib.hid (HH.out.up hb)
  have HO := Lib.hid (Oth.of hb)
  clear hb
  by_cases q : X = 0
  · have hS2 : S = E ++ [(day, n)] := by rw [HS.out]; exact tel_app (by rw [← HX.out]; exact q)
    obtain ⟨W1, hW1⟩ : ∃ W1, W1 = w1.alloc (.cells #[.int .i64 day, .int .i64 n] 87) := ⟨_, rfl⟩
    have hT1 : Tg w0 W1 p d E := by rw [hW1]; exact HT.out.up (boxed _ _)
    obtain ⟨a, c, a', c', w5, g1, g2, hr, g3, g4, hT5, hO5⟩ := hT1.more (HX.out.symm.trans q) (y := w1.heap.size) (by rw [hW1]; exact Has.fresh _ _ _)
    have k1 : w1.cell? ⟨p, 6, none⟩ = some (.slice a E.length c) := by
      have := HT.out.lt
      rw [hW1] at g1
      have e : (w1.alloc (.cells #[.int .i64 day, .int .i64 n] 87)).cell? ⟨p, 6, none⟩ = w1.cell? ⟨p, 6, none⟩ := (boxed w1 (.cells #[.int .i64 day, .int .i64 n] 87)).cell (p := ⟨p, 6, none⟩) this
      rw [← e]; exact g1
    have HR := Lib.hid hr
    have HW1 := Lib.hid hW1
    have HT5 := Lib.hid hT5
    have HO5 := Lib.hid (HO.out.trans ((Oth.of (w' := W1) (by rw [hW1]; exact boxed _ _)).trans hO5))
    generalize E.length = L at k1 HR g1 g3 HT5 HO5
    have HQ := Lib.hid q
    rw [q]
    clear g1 hr g2 hT1 hT5 q hW1 hO5
    go_wp2_with (first | (rw [← HW1.out]; refine wpList_run (o := ⟨some 24, _, _, _, _, _⟩) rfl (.tmp 19) (.tmp 23) 82 rfl _ _ rfl rfl (S := fun u q => u = .slice a' (L + 1) c' ∧ q = w5) ⟨_, w5, HR.out, rfl, rfl⟩ ?_; rintro u q ⟨rfl, rfl⟩) | fail)
    go_ret
    exact ⟨⟨by rw [HQ.out]; rfl, by rw [hS2]; exact HT5.out⟩, HO5.out⟩
  · have hS2 : S = E := by rw [HS.out]; exact tel_not (by rw [← HX.out]; exact q)
    have q' : (X != 0) = true := by simpa using q
    clear q
    go_wp2_with fail
    go_ret
    exact ⟨⟨rfl, by rw [hS2]; exact HT.out⟩, HO.out⟩
theorem tell_any (h : Tg w0 w p d E) (day n : Int) (hn : Am n) : Calls Try.prog 25 #[.pointer (some ⟨p, 0, none⟩), .int .i64 day, .int .i64 n] w (TelR w0 p d E day n) := (tell_oth h day n hn).mono fun _ _ q => q.1
end
end Go.Proofs.Ytobdcogaphkogaa
