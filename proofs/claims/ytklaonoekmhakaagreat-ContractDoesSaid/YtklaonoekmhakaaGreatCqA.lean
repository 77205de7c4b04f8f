/- The reference's track: Onward, Afresh, Tell. -/
import Derived.Test.YtklaonoekmhakaaGreatTsB
import Derived.Test.YtklaonoekmhakaaGreatTrC
import Derived.Test.YtklaonoekmhakaaGreatDnMem
import Derived.Test.YtklaonoekmhakaaGreatAlJ
namespace Go.Proofs.YtklaonoekmhakaaGreat
open Go.RowKit

theorem infoRSpan : (Tryz.prog.info? 139).map (fun i => (i.zero, i.size, i.bytes)) = some (some (.agg #[.int .i64 0, .int .i64 0, .int .i64 0, .int .i64 0]), 4, 32) := by kernel_rfl
section
variable {w : World} {r k : Nat} {d : Dt} {E : List Tl} {L : List Sp} {ta : Option Addr} {n tc : Nat}
/-- the spans, copied -/
theorem TqX.app1 (h : TqX w r k d E L (.slice ta n tc)) (hn : L.length = n) {W : World} (hW : W = w.alloc (.cells #[] 139)) :
    ∃ v1 c1 w4, (Builtin.append_ #[59, 59] 59 #[.slice (some ⟨w.heap.size, 0, none⟩) 0 0, .slice ta n tc]).run Tryz.prog W = .ok (.slice v1 n c1) w4 ∧ (w4.ownsRow w.heap.size 139 4 (.slice v1 n c1) n (L.flatMap spC) ∧ Below w.heap.size w w4) := by
  obtain ⟨i, hi, hz0, hz1, hz2⟩ := info_parts infoRSpan
  have hlen := h.fine.len
  have hb : Below w.heap.size w W := by rw [hW]; exact boxed _ _
  have hg : Has W w.heap.size 139 #[] := by rw [hW]; exact Has.fresh _ _ _
  have hrow : SpA W ta L := by
    obtain ⟨a, c, e, hr⟩ := h.row
    injection e with e1
    subst e1
    exact hr.up hb
  have hown : W.ownsRow w.heap.size 139 4 (.slice (some ⟨w.heap.size, 0, none⟩) 0 0) 0 [] := ⟨rfl, .inr ⟨w.heap.size, 0, #[], rfl, Nat.le_refl _, hg, Nat.le_refl _, by unfold maxLen; omega, rfl, rfl⟩⟩
  cases ta with
  | none =>
    obtain ⟨a, c, e, h1, _⟩ := own_form3 h.own
    injection e with e1 e2 e3
    obtain ⟨h2, h3⟩ := h1 e1.symm
    exact absurd (List.eq_nil_of_length_eq_zero h2) h.fine.some
  | some ad =>
    have hnews : ∀ (j : Nat) (u : Value), (L.flatMap spC)[j]? = some u → W.cell? (ad.add j) = some u := fun j u hj => by
      have hI2 := hrow
      rcases hrow with h | ⟨b, o, e, _⟩
      · rw [h] at hj; simp at hj
      · obtain rfl : ad = ⟨b, o, none⟩ := Option.some.inj e
        rw [addr_off]; exact hI2.flat sp_len j u hj
    obtain ⟨v', w5, hr, ho, hg5, _⟩ := run_append_own (P := Tryz.prog) W w.heap.size 59 59 139 i _ 4 32 Tryz.underlying59 hi hz0 hz1 hz2 rfl (by decide) _ 0 [] hown ad n tc (L.flatMap spC) (by rw [flat_len sp_len, hn]) hnews (sp_one L) (by unfold maxLen; omega) (by omega) hb.size
    rw [List.nil_append, Nat.zero_add] at ho
    obtain ⟨a', c', rfl⟩ := own_formb ho
    exact ⟨a', c', w5, hr, ho, hb.grown hg5 hb.size (fun j hj => by injection hj with hj; have hj : w.heap.size = j := hj; omega)⟩
/-- .. with one more -/
theorem TqX.app2 (h : TqX w r k d E L (.slice ta n tc)) {x : Sp} (hn : L.length = n) (hm : mayS L x.fr = 0) (hx : SpOk x) {v1 : Option Addr} {c1 : Nat} {w4 : World} (g4 : w4.ownsRow w.heap.size 139 4 (.slice v1 n c1) n (L.flatMap spC) ∧ Below w.heap.size w w4) {W5 : World} (hW : W5 = w4.alloc (.cells #[.int .i64 x.fr, .int .i64 x.og, .int .i64 x.ba, .int .i64 x.re] 139)) :
    ∃ v2 c2 w6, (Builtin.append_ #[59, 59] 59 #[.slice v1 n c1, .slice (some ⟨w4.heap.size, 0, none⟩) 1 1]).run Tryz.prog W5 = .ok (.slice v2 (n + 1) c2) w6 ∧ TqR w r k d E (L ++ [x]) (w6.setCell ⟨r, 1, none⟩ (.slice v2 (n + 1) c2)) ∧ (w6.cell? ⟨r, 1, none⟩ = some (.slice ta n tc) ∧ w6.frozen? ⟨r, 1, none⟩ = false ∧ Below w.heap.size w w6) := by
  obtain ⟨i, hi, hz0, hz1, hz2⟩ := info_parts infoRSpan
  have hlen := h.fine.len
  have hy : Has W5 w4.heap.size 139 #[.int .i64 x.fr, .int .i64 x.og, .int .i64 x.ba, .int .i64 x.re] := by rw [hW]; exact Has.fresh _ _ _
  have ho5 : W5.ownsRow w.heap.size 139 4 (.slice v1 n c1) n (L.flatMap spC) := by rw [hW]; exact own_up g4.1 (boxed _ _)
  have hb5 : Below w.heap.size w W5 := by rw [hW]; exact up2 g4.2 (boxed _ _)
  obtain ⟨v', w6, hr, ho, hg, _⟩ := run_append_own_at (P := Tryz.prog) W5 w.heap.size 59 59 139 i _ 4 32 Tryz.underlying59 hi hz0 hz1 hz2 rfl (by decide) _ n _ ho5 ⟨w4.heap.size, 0, none⟩ 1 1 (spC x) rfl
    (fun j u hu => by
      rw [addr_off, Nat.zero_add, hy.cell]
      exact (List.getElem?_toArray (xs := spC x) (i := j)).trans hu)
    (fun u hu => by simp [spC] at hu; rcases hu with rfl | rfl | rfl | rfl <;> rfl) (by unfold maxLen; omega) (by omega) hb5.size
  obtain ⟨a', c', rfl⟩ := own_formb ho
  have hb6 : Below w.heap.size w w6 := hb5.grown hg hb5.size (fun j hj => (ho5.lt j hj).1)
  have h6 := h.up hb6
  have hset := grown_set w6 r 1 (.slice a' (n + 1) c')
  obtain ⟨la, lc, tv, hq⟩ := h6.log
  refine ⟨a', c', w6, hr, ⟨⟨_, ⟨la, lc, tv, (hset.block k hq.has.lt (fun e => hq.has.ne h6.has (by decide) (by injection e))).trans hq.has, own_beside hq.own h6.has (by decide) hset, hq.fine, hq.lns.put h6.has (by decide) 1 _⟩, h6.has.put 1 _, ?_, h.fine.app (may_zero hm).2.2.2 hx (may_zero hm).2.2.1, h.un⟩, (Kp.of (O := fun g => g = r ∨ g = k) hb6).trans (Kp.set w6 _ _ (O := fun g => g = r ∨ g = k) (.inl rfl)) (fun _ q => .inl q)⟩, ?_, h6.has.free 1, hb6⟩
  · have := own_beside (own_zero ho) h6.has (by decide) hset
    rw [List.length_append, List.flatMap_append, hn]
    simpa using this
  · have := h6.has.cell 1; simpa using this
end
/-- what the reference's change answers, and leaves -/
def QchR (w : World) (r k : Nat) (d : Dt) (E : List Tl) (L : List Sp) (X : Int) (e : Ending) (w' : World) : Prop := e = .returned (.int .i64 X) ∧ TqR w r k d E L w'
section
variable {w : World} {r k : Nat} {d : Dt} {E : List Tl} {L : List Sp} {sv : Value}
set_option maxRecDepth 100000 in
set_option maxHeartbeats 8000000 in
theorem qonward_any (h : TqX w r k d E L sv) (day n : Int) (hn : Am n) : Calls Tryz.prog 40 #[.pointer (some ⟨r, 0, none⟩), .int .i64 day, .int .i64 n] w (QchR w r k d E (onwS d E L day n) (onwE d E L day n)) := by
  unfold QchR
  have HSame := Lib.hid (fun (w' : World) (q : Below w.heap.size w w') => TqR.same ⟨sv, h⟩ q)
  have HM := Lib.hid (qmay15_any h day)
  have HE := Lib.hid (fun (W : World) (q : Below w.heap.size w W) => qearned_any (h.up q) day)
  obtain ⟨sa, sc, rfl, _⟩ := h.row
  have hv := earV_in h.log.fine h.fine day
  have c1 := h.has.cell 1
  simp at c1
  have HC1 := Lib.hid c1
  have hno : ∀ X, onwE d E L day n = X → X ≠ 0 → onwS d E L day n = L := fun X h1 h2 => by unfold onwS; rw [if_neg (by rw [h1]; exact h2)]
  have HNo := Lib.hid hno
  obtain ⟨N, hN⟩ : ∃ N, N = L.length := ⟨_, rfl⟩
  rw [← hN] at h HC1
  have HNe := Lib.hid hN
  have HH := Lib.hid h
  have HHn := Lib.hid hn
  obtain ⟨v, hvv⟩ : ∃ v, v = earV d E L day := ⟨_, rfl⟩
  rw [← hvv] at HE hv
  have HV := Lib.hid hvv
  obtain ⟨M, hM⟩ : ∃ M, M = mayS L day := ⟨_, rfl⟩
  rw [← hM] at HM
  have HMe := Lib.hid hM
  have HVb := Lib.hid hv
  clear h c1 hno hN hn hvv hM hv
  go_enter Tryz.func40, Tryz.ntmps40
  go_wp2_with fail
  refine HM.out.mono ?_
  rintro e w1 ⟨rfl, hb1⟩
  have HB1 := Lib.hid hb1
  clear hb1
  by_cases q1 : M = 0
  · have q1' : (M != 0) = false := by simpa using q1
    have HQ1 := Lib.hid q1
    clear q1
    go_wp2_with fail
    refine (HE.out _ HB1.out).mono ?_
    rintro e w2 ⟨rfl, hb2⟩
    have HB2 := Lib.hid (up2 HB1.out hb2)
    clear hb2
    by_cases q2 : n < v
    · have hX : onwE d E L day n = 1 := by unfold onwE; rw [if_neg (by rw [← HMe.out, HQ1.out]; simp), if_pos (by rw [← HV.out]; exact q2)]
      have HX := Lib.hid hX
      clear hX
      go_wp2_with fail
      go_ret
      exact ⟨by rw [HX.out]; rfl, by rw [HNo.out _ HX.out (by decide)]; exact HSame.out _ HB2.out⟩
    · have hX : onwE d E L day n = 0 := by unfold onwE; rw [if_neg (by rw [← HMe.out, HQ1.out]; simp), if_neg (by rw [← HV.out]; exact q2)]
      have hS : onwS d E L day n = L ++ [⟨day, day, v, n - v⟩] := by unfold onwS; rw [if_pos hX, ← HV.out]
      have hmz : mayS L day = 0 := by rw [← HMe.out]; exact HQ1.out
      have hok : SpOk ⟨day, day, v, n - v⟩ := ⟨(may_zero hmz).1, (may_zero hmz).2.1, .inr rfl, HVb.out.1, by simp only; omega, by have := HHn.out.2; simp only; omega⟩
      have HH2 := Lib.hid (HH.out.up HB2.out)
      have c1 := kcell HB2.out HC1.out
      obtain ⟨W3, hW3⟩ : ∃ W3, W3 = w2.alloc (.cells #[] 139) := ⟨_, rfl⟩
      obtain ⟨v1, cc1, w4, hr1, g4⟩ := HH2.out.app1 HNe.out.symm hW3
      obtain ⟨W5, hW5⟩ : ∃ W5, W5 = w4.alloc (.cells #[.int .i64 day, .int .i64 day, .int .i64 v, .int .i64 (n - v)] 139) := ⟨_, rfl⟩
      obtain ⟨v2, cc2, w6, hr2, hT, hb6⟩ := HH2.out.app2 (x := ⟨day, day, v, n - v⟩) HNe.out.symm hmz hok g4 hW5
      have k6 := kcell (g4.2) c1
      have a6 := kcell (boxed w2 (.cells #[] 139)) c1
      have rlt := HH2.out.has.lt
      have r6 := hb6.1
      have f6 := hb6.2.1
      have e1 : IntKind.i64.wrap (n - v) = n - v := IntWalk.i64_in _ (by have := HVb.out; have := HHn.out; unfold Am at this; omega)
      have HR1 := Lib.hid hr1
      have HR2 := Lib.hid hr2
      have HT := Lib.hid (TqR.from HB2.out hT)
      have HW3 := Lib.hid hW3
      have HW5 := Lib.hid hW5
      have HX := Lib.hid hX
      have HS := Lib.hid hS
      clear hr1 hr2 hT hb6 g4 hW3 hW5 hX hS hok hmz
      go_wp2_with (first | (rw [← HW3.out]; refine wpList_run (o := ⟨some 27, _, _, _, _, _⟩) rfl (.tmp 22) (.tmp 26) 59 rfl _ _ rfl rfl (S := fun u q => u = .slice v1 N cc1 ∧ q = w4) ⟨_, w4, HR1.out, rfl, rfl⟩ ?_; rintro u q ⟨rfl, rfl⟩) | (rw [← HW5.out]; refine wpList_run (o := ⟨some 36, _, _, _, _, _⟩) rfl (.tmp 27) (.tmp 35) 59 rfl _ _ rfl rfl (S := fun u q => u = .slice v2 (N + 1) cc2 ∧ q = w6) ⟨_, w6, HR2.out, rfl, rfl⟩ ?_; rintro u q ⟨rfl, rfl⟩) | fail)
      go_ret
      exact ⟨by rw [HX.out]; rfl, by rw [HS.out]; exact HT.out⟩
  · have q1' : (M != 0) = true := by simpa using q1
    have hX : onwE d E L day n = M := by unfold onwE; rw [if_pos (by rw [← HMe.out]; exact q1), ← HMe.out]
    have HX := Lib.hid hX
    have HQ1 := Lib.hid q1
    clear q1 hX
    go_wp2_with fail
    go_ret
    exact ⟨by rw [HX.out]; rfl, by rw [HNo.out _ HX.out HQ1.out]; exact HSame.out _ HB1.out⟩
set_option maxRecDepth 100000 in
set_option maxHeartbeats 8000000 in
theorem qafresh_any (h : TqX w r k d E L sv) (day n : Int) (hn : Am n) : Calls Tryz.prog 42 #[.pointer (some ⟨r, 0, none⟩), .int .i64 day, .int .i64 n] w (QchR w r k d E (afrS L day n) (afrE L day n)) := by
  unfold QchR
  have HSame := Lib.hid (fun (w' : World) (q : Below w.heap.size w w') => TqR.same ⟨sv, h⟩ q)
  have HM := Lib.hid (qmay15_any h day)
  obtain ⟨sa, sc, rfl, _⟩ := h.row
  have c1 := h.has.cell 1
  simp at c1
  have HC1 := Lib.hid c1
  have hno : ∀ X, afrE L day n = X → X ≠ 0 → afrS L day n = L := fun X h1 h2 => by unfold afrS; rw [if_neg (by rw [h1]; exact h2)]
  have HNo := Lib.hid hno
  obtain ⟨N, hN⟩ : ∃ N, N = L.length := ⟨_, rfl⟩
  rw [← hN] at h HC1
  have HNe := Lib.hid hN
  have HH := Lib.hid h
  have HHn := Lib.hid hn
  obtain ⟨M, hM⟩ : ∃ M, M = mayS L day := ⟨_, rfl⟩
  rw [← hM] at HM
  have HMe := Lib.hid hM
  clear h c1 hno hN hn hM
  go_enter Tryz.func42, Tryz.ntmps42
  go_wp2_with fail
  refine HM.out.mono ?_
  rintro e w1 ⟨rfl, hb1⟩
  have HB1 := Lib.hid hb1
  clear hb1
  by_cases q1 : M = 0
  · have q1' : (M != 0) = false := by simpa using q1
    have HQ1 := Lib.hid q1
    clear q1
    by_cases q2 : n < 0
    · have hX : afrE L day n = 1 := by unfold afrE; rw [if_neg (by rw [← HMe.out, HQ1.out]; simp), if_pos q2]
      have HX := Lib.hid hX
      clear hX
      go_wp2_with fail
      go_ret
      exact ⟨by rw [HX.out]; rfl, by rw [HNo.out _ HX.out (by decide)]; exact HSame.out _ HB1.out⟩
    · have hX : afrE L day n = 0 := by unfold afrE; rw [if_neg (by rw [← HMe.out, HQ1.out]; simp), if_neg q2]
      have hS : afrS L day n = L ++ [⟨day, 0, 0, n⟩] := by unfold afrS; rw [if_pos hX]
      have hmz : mayS L day = 0 := by rw [← HMe.out]; exact HQ1.out
      have hok : SpOk ⟨day, 0, 0, n⟩ := ⟨(may_zero hmz).1, (may_zero hmz).2.1, .inl rfl, Int.le_refl _, by simp only; omega, by have := HHn.out.2; simp only; omega⟩
      have HH2 := Lib.hid (HH.out.up HB1.out)
      have c1 := kcell HB1.out HC1.out
      obtain ⟨W3, hW3⟩ : ∃ W3, W3 = w1.alloc (.cells #[] 139) := ⟨_, rfl⟩
      obtain ⟨v1, cc1, w4, hr1, g4⟩ := HH2.out.app1 HNe.out.symm hW3
      obtain ⟨W5, hW5⟩ : ∃ W5, W5 = w4.alloc (.cells #[.int .i64 day, .int .i64 0, .int .i64 0, .int .i64 n] 139) := ⟨_, rfl⟩
      obtain ⟨v2, cc2, w6, hr2, hT, hb6⟩ := HH2.out.app2 (x := ⟨day, 0, 0, n⟩) HNe.out.symm hmz hok g4 hW5
      have k6 := kcell (g4.2) c1
      have a6 := kcell (boxed w1 (.cells #[] 139)) c1
      have rlt := HH2.out.has.lt
      have r6 := hb6.1
      have f6 := hb6.2.1
      have HR1 := Lib.hid hr1
      have HR2 := Lib.hid hr2
      have HT := Lib.hid (TqR.from HB1.out hT)
      have HW3 := Lib.hid hW3
      have HW5 := Lib.hid hW5
      have HX := Lib.hid hX
      have HS := Lib.hid hS
      clear hr1 hr2 hT hb6 g4 hW3 hW5 hX hS hok hmz
      go_wp2_with (first | (rw [← HW3.out]; refine wpList_run (o := ⟨some 22, _, _, _, _, _⟩) rfl (.tmp 17) (.tmp 21) 59 rfl _ _ rfl rfl (S := fun u q => u = .slice v1 N cc1 ∧ q = w4) ⟨_, w4, HR1.out, rfl, rfl⟩ ?_; rintro u q ⟨rfl, rfl⟩) | (rw [← HW5.out]; refine wpList_run (o := ⟨some 27, _, _, _, _, _⟩) rfl (.tmp 22) (.tmp 26) 59 rfl _ _ rfl rfl (S := fun u q => u = .slice v2 (N + 1) cc2 ∧ q = w6) ⟨_, w6, HR2.out, rfl, rfl⟩ ?_; rintro u q ⟨rfl, rfl⟩) | fail)
      go_ret
      exact ⟨by rw [HX.out]; rfl, by rw [HS.out]; exact HT.out⟩
  · have q1' : (M != 0) = true := by simpa using q1
    have hX : afrE L day n = M := by unfold afrE; rw [if_pos (by rw [← HMe.out]; exact q1), ← HMe.out]
    have HX := Lib.hid hX
    have HQ1 := Lib.hid q1
    clear q1 hX
    go_wp2_with fail
    go_ret
    exact ⟨by rw [HX.out]; rfl, by rw [HNo.out _ HX.out HQ1.out]; exact HSame.out _ HB1.out⟩
/-- the log's Tell -/
theorem qtold_any (h : TqX w r k d E L sv) (day n : Int) (hn : Am n) : Calls Tryz.prog 43 #[.pointer (some ⟨k, 0, none⟩), .int .i64 day, .int .i64 n] w (QchR w r k d (telS d.me E day n) L (telE d.me E day n)) := by
  refine (qtell_any14 h.log day n hn).mono fun e w' q => ⟨q.1, ⟨sv, q.2.1, ?_, ?_, h.fine, h.un⟩, Kp.grown q.2.2 fun j hj => by injection hj with hj; exact .inl (.inr hj.symm)⟩
  · obtain ⟨la, lc, tv, hq⟩ := h.log
    exact (q.2.2.block r h.has.lt (fun e => h.has.ne hq.has (by decide) (by injection e))).trans h.has
  · obtain ⟨la, lc, tv, hq⟩ := h.log
    exact h.own.kept q.2.2 (.inr (own_ne h.own hq.has (by decide)))
end
end Go.Proofs.YtklaonoekmhakaaGreat

namespace Go.Proofs.YtklaonoekmhakaaGreat
open Go.RowKit

/-- a pointer to a block -/
def ptC (x : Nat × Nat) : List Value := [.pointer (some ⟨x.1, 0, none⟩)]
theorem pt_len (x : Nat × Nat) : (ptC x).length = 1 := rfl
abbrev PtA (w : World) (a : Option Addr) (l : List (Nat × Nat)) : Prop := Rws ptC 1 w a l
theorem pt_at {w : World} {a : Option Addr} {l : List (Nat × Nat)} (h : PtA w a l) {j : Nat} {x : Nat × Nat} (hx : l[j]? = some x) : ∃ b o, a = some ⟨b, o, none⟩ ∧ w.cell? ⟨b, o + j, none⟩ = some (.pointer (some ⟨x.1, 0, none⟩)) := by
  rcases h with z | ⟨b, o, z, hz⟩
  · rw [z] at hx; simp at hx
  · refine ⟨b, o, z, ?_⟩
    have := hz j x hx 0 _ rfl
    rwa [Nat.mul_one, Nat.add_zero] at this
/-- two tracks in blocks of their own -/
def Apart (x y : Nat × Nat) : Prop := x.1 ≠ y.1 ∧ x.2 ≠ y.2
/-- tracks in memory -/
structure Tqs (w : World) (P : List (Nat × Nat)) (T : List Trk) : Prop where
  len : P.length = T.length
  trk : ∀ (t : Nat) (x : Nat × Nat) (y : Trk), P[t]? = some x → T[t]? = some y → Tq w x.1 x.2 y.d y.E y.L
  apart : P.Pairwise Apart
/-- the reference's contract: its struct lies in block c, its tracks in the blocks of P -/
structure CqX (w : World) (c : Nat) (P : List (Nat × Nat)) (S : Ct) (tv : Value) : Prop where
  has : Has w c 45 #[.int .i64 S.N, .int .i64 S.la, .int .i64 (S.ch : Int), tv]
  own : w.ownsRow 0 62 1 tv P.length (P.flatMap ptC)
  trs : Tqs w P S.T
  fine : FineC S
def Cq (w : World) (c : Nat) (P : List (Nat × Nat)) (S : Ct) : Prop := ∃ tv, CqX w c P S tv
/-- the blocks that may turn -/
def Cqs (c : Nat) (P : List (Nat × Nat)) (g : Nat) : Prop := g = c ∨ ∃ x ∈ P, g = x.1 ∨ g = x.2
def CqR (w : World) (c : Nat) (P : List (Nat × Nat)) (S : Ct) (w' : World) : Prop := Cq w' c P S ∧ Kp (Cqs c P) w w'
section
variable {w w' w2 : World} {c : Nat} {P : List (Nat × Nat)} {S S' : Ct} {T : List Trk} {tv : Value}
theorem Tqs.up (h : Tqs w P T) (q : Below w.heap.size w w') : Tqs w' P T := ⟨h.len, fun t x y hx hy => (h.trk t x y hx hy).up q, h.apart⟩
theorem CqX.up (h : CqX w c P S tv) (q : Below w.heap.size w w') : CqX w' c P S tv := ⟨h.has.up q, own_up h.own q, h.trs.up q, h.fine⟩
theorem Cq.up (h : Cq w c P S) (q : Below w.heap.size w w') : Cq w' c P S := by obtain ⟨tv, h⟩ := h; exact ⟨tv, h.up q⟩
theorem CqR.same (h : Cq w c P S) (q : Below w.heap.size w w') : CqR w c P S w' := ⟨h.up q, Kp.of q⟩
theorem CqR.from (hb : Below w.heap.size w w') (h : CqR w' c P S w2) : CqR w c P S w2 := ⟨h.1, (Kp.of hb).trans h.2 (fun _ q => .inl q)⟩
theorem CqX.row (h : CqX w c P S tv) : ∃ a k, tv = .slice a P.length k ∧ PtA w a P := by
  obtain ⟨a, k, e, _⟩ := own_form3 h.own
  subst e
  exact ⟨a, k, rfl, (own_rws pt_len h.own rfl).1⟩
theorem CqX.n (h : CqX w c P S tv) : P.length = S.n := h.trs.len
/-- one of its tracks -/
theorem Tqs.at (h : Tqs w P T) {t : Nat} {x : Nat × Nat} (hx : P[t]? = some x) : Tq w x.1 x.2 (T.getD t trk0).d (T.getD t trk0).E (T.getD t trk0).L := by
  have hl := (List.getElem?_eq_some_iff.1 hx).1
  rw [h.len] at hl
  have := h.trk t x _ hx (List.getElem?_eq_getElem hl)
  rwa [List.getD_eq_getElem?_getD, List.getElem?_eq_getElem hl]
set_option maxRecDepth 100000 in
set_option maxHeartbeats 4000000 in
theorem qcall_any (h : CqX w c P S tv) (day : Int) : Calls Tryz.prog 20 #[.pointer (some ⟨c, 0, none⟩), .int .i64 day] w fun e w' => e = .returned (.int .i64 (S.all day)) ∧ Below w.heap.size w w' := by
  obtain ⟨a, k, rfl, hrow⟩ := h.row
  have HR := Lib.hid hrow
  have HF := Lib.hid h.fine
  have hn := h.n
  have HN := Lib.hid hn
  have c3 := h.has.cell 3
  simp at c3
  rw [hn] at c3
  have HC3 := Lib.hid c3
  have HE := Lib.hid (fun (W : World) (q : Below w.heap.size w W) (t : Nat) (x : Nat × Nat) (hx : P[t]? = some x) => (h.up q).trs.at hx)
  have hl := h.fine.n1
  have hlt := h.has.lt
  obtain ⟨V, hV⟩ : ∃ V, V = S.all day := ⟨_, rfl⟩
  rw [← hV]
  have HV := Lib.hid hV
  have HAll := Lib.hid (fun (t : Nat) (ht : t < S.n) => h.fine.ear_bd day ht)
  have HPart := Lib.hid (fun (t : Nat) (ht : t ≤ S.n) => sumN_part (fun t ht => (h.fine.ear_bd day ht).1) (h.fine.all_bd day).2 ht)
  obtain ⟨n, hnn⟩ : ∃ n, n = S.n := ⟨_, rfl⟩
  rw [← hnn] at HN c3 HC3 hl HAll HPart
  have HNn := Lib.hid hnn
  clear h hrow hn hV hnn
  go_enter Tryz.func20, Tryz.ntmps20
  go_wp2_with fail
  clear c3
  go_loopw [5, 6] (fun s i wr => ∃ k : Nat, k ≤ n ∧ i = .int .i64 (k : Int) ∧ s = .int .i64 (sumN (S.ear day) k) ∧ Below w.heap.size w wr) (fun _ i _ => n - (intOf i).toNat)
  case atStart => exact ⟨0, Nat.zero_le _, rfl, rfl, Below.refl _ _⟩
  case round =>
    obtain ⟨k, hk, rfl, rfl, hb⟩ := hrel
    have HB := Lib.hid hb
    have c3 := kcell hb HC3.out
    clear hb
    by_cases hlt : k < n
    · obtain ⟨x, hx⟩ : ∃ x, P[k]? = some x := ⟨P[k]'(by rw [HN.out]; exact hlt), List.getElem?_eq_getElem _⟩
      obtain ⟨b, o, rfl, z0⟩ := pt_at (HR.out.up HB.out) hx
      have HC := Lib.hid (fun (W : World) (q : Below w.heap.size w W) => (HE.out W q k x hx))
      have i0 : (0 : Int) ≤ (k : Int) := by omega
      have i1 : (k : Int) < (n : Int) := by omega
      have e1 : IntKind.i64.wrap ((k : Int) + 1) = (k : Int) + 1 := IntWalk.i64_in _ (by omega)
      have h1 := HPart.out (k + 1) (by omega)
      have hst : sumN (S.ear day) (k + 1) = sumN (S.ear day) k + S.ear day k := rfl
      rw [hst] at h1
      have e2 : IntKind.i64.wrap (sumN (S.ear day) k + S.ear day k) = sumN (S.ear day) k + S.ear day k := IntWalk.i64_in _ (by omega)
      have HSt := Lib.hid hst
      obtain ⟨sv, hq⟩ := HC.out wr HB.out
      have HQ := Lib.hid (qearned_any hq day)
      have HQ : Hid (Calls Tryz.prog 37 #[.pointer (some ⟨x.1, 0, none⟩), .int .i64 day] wr fun e w' => e = .returned (.int .i64 (S.ear day k)) ∧ Below wr.heap.size wr w') := HQ
      generalize sumN (S.ear day) k = s at e2 HSt
      generalize S.ear day k = v at e2 HSt HQ
      clear hx hq h1 hst
      go_wp2_with fail
      refine HQ.out.mono ?_
      rintro e w3 ⟨rfl, hb⟩
      have HB3 := Lib.hid (up2 HB.out hb)
      clear hb z0 c3
      go_wp2_with fail
      exact ⟨⟨k + 1, by omega, by go_num, by rw [HSt.out], HB3.out⟩, by simp [intOf]; omega⟩
    · obtain rfl : k = n := by omega
      go_wp2_with fail
      go_ret
      exact ⟨by rw [HV.out]; unfold Ct.all; rw [← HNn.out]; rfl, HB.out⟩
/-- what may answers -/
def MayR (w : World) (S : Ct) (day more : Int) (e : Ending) (w' : World) : Prop := ∃ V, e = .returned (.tuple #[.int .i64 V, .int .i64 (S.may day more)]) ∧ (S.may day more = 0 → V = S.N + more) ∧ Below w.heap.size w w'
theorem MayR.no {day more X V : Int} (h : S.may day more = X) (h0 : X ≠ 0) (hb : Below w.heap.size w w') : MayR w S day more (.returned (.tuple #[.int .i64 V, .int .i64 X])) w' :=
  ⟨V, by rw [h], fun z => absurd (h.symm.trans z) h0, hb⟩
theorem MayR.yes {day more : Int} (h : S.may day more = tellE (S.N + more)) (hb : Below w.heap.size w w') : MayR w S day more (.returned (.tuple #[.int .i64 (tellV (S.N + more)), .int .i64 (tellE (S.N + more))])) w' := by
  refine ⟨_, by rw [h], fun z => ?_, hb⟩
  rcases tellE_or (S.N + more) with ⟨_, z2, _⟩ | ⟨z2, _⟩
  · exact z2
  · rw [h, z2] at z; cases z
set_option maxRecDepth 100000 in
set_option maxHeartbeats 4000000 in
theorem qcmay_any (h : CqX w c P S tv) (day more : Int) (hm : Am more) : Calls Tryz.prog 36 #[.pointer (some ⟨c, 0, none⟩), .int .i64 day, .int .i64 more] w (MayR w S day more) := by
  have c0 := h.has.cell 0
  have c1 := h.has.cell 1
  have c2 := h.has.cell 2
  simp at c0 c1 c2
  have hN0 := h.fine.N0
  have hN1 := h.fine.N1
  have hch := h.fine.ch
  have HD : Hid (S.may day more = if day < 1 ∨ 1000000 < day then 1 else if day < S.la then 11 else if 40 ≤ S.ch then 4 else tellE (S.N + more)) := Lib.hid rfl
  have HYes := Lib.hid (fun (w' : World) => @MayR.yes w w' S day more)
  have HNo := Lib.hid (fun (w' : World) (X V : Int) => @MayR.no w w' S day more X V)
  generalize S.N = N at c0 hN0 hN1 HD HYes
  generalize S.la = la at c1 HD
  generalize S.ch = ch at c2 hch HD
  clear h
  by_cases q1 : day < 1 ∨ 1000000 < day
  · rw [if_pos q1] at HD
    rcases q1 with q1 | q1
    · go_enter Tryz.func36, Tryz.ntmps36
      go_wp2_with fail
      go_ret2
      exact HNo.out _ _ _ HD.out (by decide) (Below.refl _ _)
    · have q2 : ¬ day < 1 := by omega
      go_enter Tryz.func36, Tryz.ntmps36
      go_wp2_with fail
      go_ret2
      exact HNo.out _ _ _ HD.out (by decide) (Below.refl _ _)
  rw [if_neg q1] at HD
  have q1a : ¬ day < 1 := by omega
  have q1b : ¬ 1000000 < day := by omega
  clear q1
  by_cases q2 : day < la
  · rw [if_pos q2] at HD
    go_enter Tryz.func36, Tryz.ntmps36
    go_wp2_with fail
    go_ret2
    exact HNo.out _ _ _ HD.out (by decide) (Below.refl _ _)
  rw [if_neg q2] at HD
  by_cases q3 : 40 ≤ ch
  · rw [if_pos q3] at HD
    have q3' : (40 : Int) ≤ (ch : Int) := by omega
    clear q3
    go_enter Tryz.func36, Tryz.ntmps36
    go_wp2_with fail
    go_ret2
    exact HNo.out _ _ _ HD.out (by decide) (Below.refl _ _)
  rw [if_neg q3] at HD
  have q3' : ¬ (40 : Int) ≤ (ch : Int) := by omega
  have HO1 := Lib.hid (fun (W : World) => of_any N W (by omega) (by omega))
  have HO2 := Lib.hid (fun (W : World) => of_any more W hm.1 hm.2)
  have HSm1 := Lib.hid (small64 (n := N) (by omega) (by omega))
  have HSm2 := Lib.hid (small64 hm.1 hm.2)
  have HSm3 := Lib.hid (small126 (x := N + more) (by unfold Am at hm; omega))
  clear q3 hm hN0 hN1 hch
  go_enter Tryz.func36, Tryz.ntmps36
  go_wp2_with fail
  refine (HO1.out _).mono ?_
  rintro e w1 ⟨s1, a1, n1, p1, rfl, hE1, hb1⟩
  have HE1 := Lib.hid hE1
  have HB1 := Lib.hid hb1
  clear hE1 hb1 c0 c1 c2
  go_wp2_with fail
  refine (HO2.out _).mono ?_
  rintro e w2 ⟨s2, a2, n2, p2, rfl, hE2, hb2⟩
  have HE2 := Lib.hid hE2
  have HE1' := Lib.hid (HE1.out.below hb2)
  have HB2 := Lib.hid (up2 HB1.out hb2)
  clear hE2 hb2
  go_wp2_with fail
  refine (plus_ex s1 s2 N more a1 a2 n1 n2 p1 p2 _ HE1'.out HE2.out HSm1.out HSm2.out).mono ?_
  rintro e w3 ⟨s3, a3, n3, p3, rfl, hE3, hb3⟩
  have HE3 := Lib.hid hE3
  have HB3 := Lib.hid (up2 HB2.out hb3)
  clear hE3 hb3
  go_wp2_with fail
  refine (fit_any s3 (N + more) a3 n3 p3 _ HE3.out HSm3.out).mono ?_
  rintro e w4 ⟨rfl, hb4⟩
  have HB4 := Lib.hid (up2 HB3.out hb4)
  clear hb4
  go_wp2_with fail
  go_ret2
  exact HYes.out _ HD.out HB4.out
end
end Go.Proofs.YtklaonoekmhakaaGreat
