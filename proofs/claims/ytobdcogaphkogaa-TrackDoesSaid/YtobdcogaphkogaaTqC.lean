/- The reference's track: Onward, Afresh, Tell. -/
import Derived.Test.YtobdcogaphkogaaTqB
import Derived.Test.YtobdcogaphkogaaTrC
namespace Go.Proofs.Ytobdcogaphkogaa
open Go.RowKit

theorem infoRSpan : (Try.prog.info? 62).map (fun i => (i.zero, i.size, i.bytes)) = some (some (.agg #[.int .i64 0, .int .i64 0, .int .i64 0, .int .i64 0]), 4, 32) := by kernel_rfl
section
variable {w : World} {r k : Nat} {d : Dt} {E : List Tl} {L : List Sp} {ta : Option Addr} {n tc : Nat}
/-- the spans, copied -/
theorem TqX.app1 (h : TqX w r k d E L (.slice ta n tc)) (hn : L.length = n) {W : World} (hW : W = w.alloc (.cells #[] 62)) :
    ∃ v1 c1 w4, (Builtin.append_ #[38, 38] 38 #[.slice (some ⟨w.heap.size, 0, none⟩) 0 0, .slice ta n tc]).run Try.prog W = .ok (.slice v1 n c1) w4 ∧ (w4.ownsRow w.heap.size 62 4 (.slice v1 n c1) n (L.flatMap spC) ∧ Below w.heap.size w w4) := by
  obtain ⟨i, hi, hz0, hz1, hz2⟩ := info_parts infoRSpan
  have hlen := h.fine.len
  have hb : Below w.heap.size w W := by rw [hW]; exact boxed _ _
  have hg : Has W w.heap.size 62 #[] := by rw [hW]; exact Has.fresh _ _ _
  have hrow : SpA W ta L := by
    obtain ⟨a, c, e, hr⟩ := h.row
    injection e with e1
    subst e1
    exact hr.up hb
  have hown : W.ownsRow w.heap.size 62 4 (.slice (some ⟨w.heap.size, 0, none⟩) 0 0) 0 [] := ⟨rfl, .inr ⟨w.heap.size, 0, #[], rfl, Nat.le_refl _, hg, Nat.le_refl _, by unfold maxLen; omega, rfl, rfl⟩⟩
  cases ta with
  | none =>
    obtain ⟨a, c, e, h1, _⟩ := own_form3 h.own
    injection e with e1 e2 e3
    obtain ⟨h2, h3⟩ := h1 e1.symm
    exact absurd (List.eq_nil_of_length_eq_zero h2) h.fine.some
  | some ad =>
    have hnews : ∀ (j : Nat) (u : Value), (L.flatMap spC)[j]? = some u → W.cell? (ad.add j) = some u := fun j u hj => by
      have hI2 := hrow
      rcases hrow with h | ⟨b, o, e, _⟩
      · rw [h] at hj; simp at hj
      · obtain rfl : ad = ⟨b, o, none⟩ := Option.some.inj e
        rw [addr_off]; exact hI2.flat sp_len j u hj
    obtain ⟨v', w5, hr, ho, hg5, _⟩ := run_append_own (P := Try.prog) W w.heap.size 38 38 62 i _ 4 32 Try.underlying38 hi hz0 hz1 hz2 rfl (by decide) _ 0 [] hown ad n tc (L.flatMap spC) (by rw [flat_len sp_len, hn]) hnews (sp_one L) (by unfold maxLen; omega) (by omega) hb.size
    rw [List.nil_append, Nat.zero_add] at ho
    obtain ⟨a', c', rfl⟩ := own_formb ho
    exact ⟨a', c', w5, hr, ho, hb.grown hg5 hb.size (fun j hj => by injection hj with hj; have hj : w.heap.size = j := hj; omega)⟩
/-- .. with one more -/
theorem TqX.app2 (h : TqX w r k d E L (.slice ta n tc)) {x : Sp} (hn : L.length = n) (hm : mayS L x.fr = 0) (hx : SpOk x) {v1 : Option Addr} {c1 : Nat} {w4 : World} (g4 : w4.ownsRow w.heap.size 62 4 (.slice v1 n c1) n (L.flatMap spC) ∧ Below w.heap.size w w4) {W5 : World} (hW : W5 = w4.alloc (.cells #[.int .i64 x.fr, .int .i64 x.og, .int .i64 x.ba, .int .i64 x.re] 62)) :
    ∃ v2 c2 w6, (Builtin.append_ #[38, 38] 38 #[.slice v1 n c1, .slice (some ⟨w4.heap.size, 0, none⟩) 1 1]).run Try.prog W5 = .ok (.slice v2 (n + 1) c2) w6 ∧ TqR w r k d E (L ++ [x]) (w6.setCell ⟨r, 1, none⟩ (.slice v2 (n + 1) c2)) ∧ (w6.cell? ⟨r, 1, none⟩ = some (.slice ta n tc) ∧ w6.frozen? ⟨r, 1, none⟩ = false ∧ Below w.heap.size w w6) := by
  obtain ⟨i, hi, hz0, hz1, hz2⟩ := info_parts infoRSpan
  have hlen := h.fine.len
  have hy : Has W5 w4.heap.size 62 #[.int .i64 x.fr, .int .i64 x.og, .int .i64 x.ba, .int .i64 x.re] := by rw [hW]; exact Has.fresh _ _ _
  have ho5 : W5.ownsRow w.heap.size 62 4 (.slice v1 n c1) n (L.flatMap spC) := by rw [hW]; exact own_up g4.1 (boxed _ _)
  have hb5 : Below w.heap.size w W5 := by rw [hW]; exact up2 g4.2 (boxed _ _)
  obtain ⟨v', w6, hr, ho, hg, _⟩ := run_append_own_at (P := Try.prog) W5 w.heap.size 38 38 62 i _ 4 32 Try.underlying38 hi hz0 hz1 hz2 rfl (by decide) _ n _ ho5 ⟨w4.heap.size, 0, none⟩ 1 1 (spC x) rfl
    (fun j u hu => by
      rw [addr_off, Nat.zero_add, hy.cell]
      exact (List.getElem?_toArray (xs := spC x) (i := j)).trans hu)
    (fun u hu => by simp [spC] at hu; rcases hu with rfl | rfl | rfl | rfl <;> rfl) (by unfold maxLen; omega) (by omega) hb5.size
  obtain ⟨a', c', rfl⟩ := own_formb ho
  have hb6 : Below w.heap.size w w6 := hb5.grown hg hb5.size (fun j hj => (ho5.lt j hj).1)
  have h6 := h.up hb6
  have hset := grown_set w6 r 1 (.slice a' (n + 1) c')
  obtain ⟨la, lc, tv, hq⟩ := h6.log
  refine ⟨a', c', w6, hr, ⟨⟨_, ⟨la, lc, tv, (hset.block k hq.has.lt (fun e => hq.has.ne h6.has (by decide) (by injection e))).trans hq.has, own_beside hq.own h6.has (by decide) hset, hq.fine⟩, h6.has.put 1 _, ?_, h.fine.app (may_zero hm).2.2.2 hx (may_zero hm).2.2.1, h.un⟩, (Kp.of (O := fun g => g = r ∨ g = k) hb6).trans (Kp.set w6 _ _ (O := fun g => g = r ∨ g = k) (.inl rfl)) (fun _ q => .inl q)⟩, ?_, h6.has.free 1, hb6⟩
  · have := own_beside (own_zero ho) h6.has (by decide) hset
    rw [List.length_append, List.flatMap_append, hn]
    simpa using this
  · have := h6.has.cell 1; simpa using this
end
/-- what the reference's change answers, and leaves -/
def QchR (w : World) (r k : Nat) (d : Dt) (E : List Tl) (L : List Sp) (X : Int) (e : Ending) (w' : World) : Prop := e = .returned (.int .i64 X) ∧ TqR w r k d E L w'
section
variable {w : World} {r k : Nat} {d : Dt} {E : List Tl} {L : List Sp} {sv : Value}
set_option maxRecDepth 100000 in
set_option maxHeartbeats 8000000 in
theorem qonward_any (h : TqX w r k d E L sv) (day n : Int) (hn : Am n) : Calls Try.prog 12 #[.pointer (some ⟨r, 0, none⟩), .int .i64 day, .int .i64 n] w (QchR w r k d E (onwS d E L day n) (onwE d E L day n)) := by
  unfold QchR
  have HSame := Lib.hid (fun (w' : World) (q : Below w.heap.size w w') => TqR.same ⟨sv, h⟩ q)
  have HM := Lib.hid (qmay_any h day)
  have HE := Lib.hid (fun (W : World) (q : Below w.heap.size w W) => qearned_any (h.up q) day)
  obtain ⟨sa, sc, rfl, _⟩ := h.row
  have hv := earV_in h.log.fine h.fine day
  have c1 := h.has.cell 1
  simp at c1
  have HC1 := Lib.hid c1
  have hno : ∀ X, onwE d E L day n = X → X ≠ 0 → onwS d E L day n = L := fun X h1 h2 => by unfold onwS; rw [if_neg (by rw [h1]; exact h2)]
  have HNo := Lib.hid hno
  obtain ⟨N, hN⟩ : ∃ N, N = L.length := ⟨_, rfl⟩
  rw [← hN] at h HC1
  have HNe := Lib.hid hN
  have HH := Lib.hid h
  have HHn := Lib.hid hn
  obtain ⟨v, hvv⟩ : ∃ v, v = earV d E L day := ⟨_, rfl⟩
  rw [← hvv] at HE hv
  have HV := Lib.hid hvv
  obtain ⟨M, hM⟩ : ∃ M, M = mayS L day := ⟨_, rfl⟩
  rw [← hM] at HM
  have HMe := Lib.hid hM
  have HVb := Lib.hid hv
  clear h c1 hno hN hn hvv hM hv
  go_enter Try.func12, Try.ntmps12
  go_wp2_with fail
  refine HM.out.mono ?_
  rintro e w1 ⟨rfl, hb1⟩
  have HB1 := Lib.hid hb1
  clear hb1
  by_cases q1 : M = 0
  · have q1' : (M != 0) = false := by simpa using q1
    have HQ1 := Lib.hid q1
    clear q1
    go_wp2_with fail
    refine (HE.out _ HB1.out).mono ?_
    rintro e w2 ⟨rfl, hb2⟩
    have HB2 := Lib.hid (up2 HB1.out hb2)
    clear hb2
    by_cases q2 : n < v
    · have hX : onwE d E L day n = 1 := by unfold onwE; rw [if_neg (by rw [← HMe.out, HQ1.out]; simp), if_pos (by rw [← HV.out]; exact q2)]
      have HX := Lib.hid hX
      clear hX
      go_wp2_with fail
      go_ret
      exact ⟨by rw [HX.out]; rfl, by rw [HNo.out _ HX.out (by decide)]; exact HSame.out _ HB2.out⟩
    · have hX : onwE d E L day n = 0 := by unfold onwE; rw [if_neg (by rw [← HMe.out, HQ1.out]; simp), if_neg (by rw [← HV.out]; exact q2)]
      have hS : onwS d E L day n = L ++ [⟨day, day, v, n - v⟩] := by unfold onwS; rw [if_pos hX, ← HV.out]
      have hmz : mayS L day = 0 := by rw [← HMe.out]; exact HQ1.out
      have hok : SpOk ⟨day, day, v, n - v⟩ := ⟨(may_zero hmz).1, (may_zero hmz).2.1, .inr rfl, HVb.out.1, by simp only; omega, by have := HHn.out.2; simp only; omega⟩
      have HH2 := Lib.hid (HH.out.up HB2.out)
      have c1 := kcell HB2.out HC1.out
      obtain ⟨W3, hW3⟩ : ∃ W3, W3 = w2.alloc (.cells #[] 62) := ⟨_, rfl⟩
      obtain ⟨v1, cc1, w4, hr1, g4⟩ := HH2.out.app1 HNe.out.symm hW3
      obtain ⟨W5, hW5⟩ : ∃ W5, W5 = w4.alloc (.cells #[.int .i64 day, .int .i64 day, .int .i64 v, .int .i64 (n - v)] 62) := ⟨_, rfl⟩
      obtain ⟨v2, cc2, w6, hr2, hT, hb6⟩ := HH2.out.app2 (x := ⟨day, day, v, n - v⟩) HNe.out.symm hmz hok g4 hW5
      have k6 := kcell (g4.2) c1
      have a6 := kcell (boxed w2 (.cells #[] 62)) c1
      have rlt := HH2.out.has.lt
      have r6 := hb6.1
      have f6 := hb6.2.1
      have e1 : IntKind.i64.wrap (n - v) = n - v := IntWalk.i64_in _ (by have := HVb.out; have := HHn.out; unfold Am at this; omega)
      have HR1 := Lib.hid hr1
      have HR2 := Lib.hid hr2
      have HT := Lib.hid (TqR.from HB2.out hT)
      have HW3 := Lib.hid hW3
      have HW5 := Lib.hid hW5
      have HX := Lib.hid hX
      have HS := Lib.hid hS
      clear hr1 hr2 hT hb6 g4 hW3 hW5 hX hS hok hmz
      go_wp2_with (first | (rw [← HW3.out]; refine wpList_run (o := ⟨some 27, _, _, _, _, _⟩) rfl (.tmp 22) (.tmp 26) 38 rfl _ _ rfl rfl (S := fun u q => u = .slice v1 N cc1 ∧ q = w4) ⟨_, w4, HR1.out, rfl, rfl⟩ ?_; rintro u q ⟨rfl, rfl⟩) | (rw [← HW5.out]; refine wpList_run (o := ⟨some 36, _, _, _, _, _⟩) rfl (.tmp 27) (.tmp 35) 38 rfl _ _ rfl rfl (S := fun u q => u = .slice v2 (N + 1) cc2 ∧ q = w6) ⟨_, w6, HR2.out, rfl, rfl⟩ ?_; rintro u q ⟨rfl, rfl⟩) | fail)
      go_ret
      exact ⟨by rw [HX.out]; rfl, by rw [HS.out]; exact HT.out⟩
  · have q1' : (M != 0) = true := by simpa using q1
    have hX : onwE d E L day n = M := by unfold onwE; rw [if_pos (by rw [← HMe.out]; exact q1), ← HMe.out]
    have HX := Lib.hid hX
    have HQ1 := Lib.hid q1
    clear q1 hX
    go_wp2_with fail
    go_ret
    exact ⟨by rw [HX.out]; rfl, by rw [HNo.out _ HX.out HQ1.out]; exact HSame.out _ HB1.out⟩
set_option maxRecDepth 100000 in
set_option maxHeartbeats 8000000 in
theorem qafresh_any (h : TqX w r k d E L sv) (day n : Int) (hn : Am n) : Calls Try.prog 13 #[.pointer (some ⟨r, 0, none⟩), .int .i64 day, .int .i64 n] w (QchR w r k d E (afrS L day n) (afrE L day n)) := by
  unfold QchR
  have HSame := Lib.hid (fun (w' : World) (q : Below w.heap.size w w') => TqR.same ⟨sv, h⟩ q)
  have HM := Lib.hid (qmay_any h day)
  obtain ⟨sa, sc, rfl, _⟩ := h.row
  have c1 := h.has.cell 1
  simp at c1
  have HC1 := Lib.hid c1
  have hno : ∀ X, afrE L day n = X → X ≠ 0 → afrS L day n = L := fun X h1 h2 => by unfold afrS; rw [if_neg (by rw [h1]; exact h2)]
  have HNo := Lib.hid hno
  obtain ⟨N, hN⟩ : ∃ N, N = L.length := ⟨_, rfl⟩
  rw [← hN] at h HC1
  have HNe := Lib.hid hN
  have HH := Lib.hid h
  have HHn := Lib.hid hn
  obtain ⟨M, hM⟩ : ∃ M, M = mayS L day := ⟨_, rfl⟩
  rw [← hM] at HM
  have HMe := Lib.hid hM
  clear h c1 hno hN hn hM
  go_enter Try.func13, Try.ntmps13
  go_wp2_with fail
  refine HM.out.mono ?_
  rintro e w1 ⟨rfl, hb1⟩
  have HB1 := Lib.hid hb1
  clear hb1
  by_cases q1 : M = 0
  · have q1' : (M != 0) = false := by simpa using q1
    have HQ1 := Lib.hid q1
    clear q1
    by_cases q2 : n < 0
    · have hX : afrE L day n = 1 := by unfold afrE; rw [if_neg (by rw [← HMe.out, HQ1.out]; simp), if_pos q2]
      have HX := Lib.hid hX
      clear hX
      go_wp2_with fail
      go_ret
      exact ⟨by rw [HX.out]; rfl, by rw [HNo.out _ HX.out (by decide)]; exact HSame.out _ HB1.out⟩
    · have hX : afrE L day n = 0 := by unfold afrE; rw [if_neg (by rw [← HMe.out, HQ1.out]; simp), if_neg q2]
      have hS : afrS L day n = L ++ [⟨day, 0, 0, n⟩] := by unfold afrS; rw [if_pos hX]
      have hmz : mayS L day = 0 := by rw [← HMe.out]; exact HQ1.out
      have hok : SpOk ⟨day, 0, 0, n⟩ := ⟨(may_zero hmz).1, (may_zero hmz).2.1, .inl rfl, Int.le_refl _, by simp only; omega, by have := HHn.out.2; simp only; omega⟩
      have HH2 := Lib.hid (HH.out.up HB1.out)
      have c1 := kcell HB1.out HC1.out
      obtain ⟨W3, hW3⟩ : ∃ W3, W3 = w1.alloc (.cells #[] 62) := ⟨_, rfl⟩
      obtain ⟨v1, cc1, w4, hr1, g4⟩ := HH2.out.app1 HNe.out.symm hW3
      obtain ⟨W5, hW5⟩ : ∃ W5, W5 = w4.alloc (.cells #[.int .i64 day, .int .i64 0, .int .i64 0, .int .i64 n] 62) := ⟨_, rfl⟩
      obtain ⟨v2, cc2, w6, hr2, hT, hb6⟩ := HH2.out.app2 (x := ⟨day, 0, 0, n⟩) HNe.out.symm hmz hok g4 hW5
      have k6 := kcell (g4.2) c1
      have a6 := kcell (boxed w1 (.cells #[] 62)) c1
      have rlt := HH2.out.has.lt
      have r6 := hb6.1
      have f6 := hb6.2.1
      have HR1 := Lib.hid hr1
      have HR2 := Lib.hid hr2
      have HT := Lib.hid (TqR.from HB1.out hT)
      have HW3 := Lib.hid hW3
      have HW5 := Lib.hid hW5
      have HX := Lib.hid hX
      have HS := Lib.hid hS
      clear hr1 hr2 hT hb6 g4 hW3 hW5 hX hS hok hmz
      go_wp2_with (first | (rw [← HW3.out]; refine wpList_run (o := ⟨some 22, _, _, _, _, _⟩) rfl (.tmp 17) (.tmp 21) 38 rfl _ _ rfl rfl (S := fun u q => u = .slice v1 N cc1 ∧ q = w4) ⟨_, w4, HR1.out, rfl, rfl⟩ ?_; rintro u q ⟨rfl, rfl⟩) | (rw [← HW5.out]; refine wpList_run (o := ⟨some 27, _, _, _, _, _⟩) rfl (.tmp 22) (.tmp 26) 38 rfl _ _ rfl rfl (S := fun u q => u = .slice v2 (N + 1) cc2 ∧ q = w6) ⟨_, w6, HR2.out, rfl, rfl⟩ ?_; rintro u q ⟨rfl, rfl⟩) | fail)
      go_ret
      exact ⟨by rw [HX.out]; rfl, by rw [HS.out]; exact HT.out⟩
  · have q1' : (M != 0) = true := by simpa using q1
    have hX : afrE L day n = M := by unfold afrE; rw [if_pos (by rw [← HMe.out]; exact q1), ← HMe.out]
    have HX := Lib.hid hX
    have HQ1 := Lib.hid q1
    clear q1 hX
    go_wp2_with fail
    go_ret
    exact ⟨by rw [HX.out]; rfl, by rw [HNo.out _ HX.out HQ1.out]; exact HSame.out _ HB1.out⟩
/-- the log's Tell -/
theorem qtold_any (h : TqX w r k d E L sv) (day n : Int) (hn : Am n) : Calls Try.prog 11 #[.pointer (some ⟨k, 0, none⟩), .int .i64 day, .int .i64 n] w (QchR w r k d (telS d.me E day n) L (telE d.me E day n)) := by
  refine (qtell_any14 h.log day n hn).mono fun e w' q => ⟨q.1, ⟨sv, q.2.1, ?_, ?_, h.fine, h.un⟩, Kp.grown q.2.2 fun j hj => by injection hj with hj; exact .inl (.inr hj.symm)⟩
  · obtain ⟨la, lc, tv, hq⟩ := h.log
    exact (q.2.2.block r h.has.lt (fun e => h.has.ne hq.has (by decide) (by injection e))).trans h.has
  · obtain ⟨la, lc, tv, hq⟩ := h.log
    exact h.own.kept q.2.2 (.inr (own_ne h.own hq.has (by decide)))
end
end Go.Proofs.Ytobdcogaphkogaa
