/- The reference: Reverse; both ledgers beside each other. -/
import Derived.Test.YtginbgclifdfiaaRgD
import Derived.Test.YtginbgclifdfiaaRhA
namespace Go.Proofs.Ytginbgclifdfiaa
open Go.RowKit

section
variable {w w' W : World} {r : Nat} {S : Ld} {ve : Value} {vs : List Value} {O : Nat → Prop}
def GrR (w : World) (r : Nat) (S : Ld) (O : Nat → Prop) (i q : Int) (e : Ending) (w' : World) : Prop :=
  e = .returned (.tuple #[.int .i64 (revN S i q), .int .i64 (revE S i q)]) ∧ RlR w r O (revS S i q) w'
theorem RlR.pre {w2 w3 : World} {S' : Ld} (h0 : Rl w r S O) (hb : Below w.heap.size w w2) (h : RlR w2 r O S' w3) : RlR w r O S' w3 := by
  obtain ⟨⟨ve, vs, h1, h2, hF, _⟩, h3⟩ := h
  refine RlR.of h0 h1 (h2.mono fun b hb' => ?_) hF ((Kp.of (O := O) hb).trans h3 fun b h => .inl h)
  rcases hb' with h | h
  · exact .inl h
  · exact .inr (Nat.le_trans hb.size h.1)
theorem Rlw.turn {g n c : Nat} (h : Rlw w r S (.slice (some ⟨g, 0, none⟩) n c) vs) (i : Nat) (hi : i < S.L.length) : Rlw (w.setCell ⟨g, i * 3 + 2, none⟩ (.bool true)) r (turned1 S i) (.slice (some ⟨g, 0, none⟩) n c) vs := by
  have hn : n = S.L.length := by
    rcases h.ents.2 with ⟨e, _⟩ | ⟨_, _, _, e, _⟩
    · cases e
    · injection e
  subst hn
  obtain ⟨cur, hh⟩ : ∃ cur, Has w g 52 cur := by
    rcases h.ents.2 with ⟨e, _⟩ | ⟨g', c', cur, e, _, hh, _⟩
    · cases e
    · injection e with e
      injection e with e
      obtain rfl : g = g' := by injection e
      exact ⟨cur, hh⟩
  refine ⟨h.head.off (p := ⟨g, i * 3 + 2, none⟩) (h.head.ne hh (by decide)) _, ?_, ?_, fun j e v he hv => ?_⟩
  · show (w.setCell _ _).ownsRow 0 52 3 _ (S.L.modify i Go.Proofs.Ytginbgclifdfiaa.turn).length (entC (S.L.modify i Go.Proofs.Ytginbgclifdfiaa.turn) vs)
    rw [entC_turn _ _ _ h.lens hi, List.length_modify]
    exact own_set h.ents _ _
  · show vs.length = (S.L.modify i _).length
    rw [List.length_modify]; exact h.lens
  · have he' : (S.L.modify i Go.Proofs.Ytginbgclifdfiaa.turn)[j]? = some e := he
    rw [List.getElem?_modify] at he'
    obtain ⟨e0, h0, h1⟩ := Option.map_eq_some_iff.1 he'
    have hps : e.ps = e0.ps := by rw [← h1]; split <;> rfl
    have := h.each j e0 v h0 hv
    rw [hps]
    exact own_keep this fun k hk => setCell_heap _ _ _ _ (own_type this hh (by decide) k hk)
theorem app_post (ty : TypeId) {B n : Nat} {v : Value} {xs : List Value} (h : W.ownsRow B 48 3 v n xs) (hB : B ≤ W.heap.size) (hn : n ≤ 1000) (a c m : Int) :
    ∃ v' W2, (Builtin.append_ #[32, 32] ty #[v, .slice (some ⟨W.heap.size, 0, none⟩) 1 1]).run Try.prog (W.alloc (.cells #[.int .i64 a, .int .i64 c, .int .i64 m] 48)) = .ok v' W2 ∧ W2.ownsRow B 48 3 v' (n + 1) (xs ++ [.int .i64 a, .int .i64 c, .int .i64 m]) ∧ (W.alloc (.cells #[.int .i64 a, .int .i64 c, .int .i64 m] 48)).grownBy W2 v.ownBlock := by
  obtain ⟨i, hi, hz0, hz1, hz2⟩ := info_parts infoPost
  have hx := Has.fresh W 48 #[.int .i64 a, .int .i64 c, .int .i64 m]
  obtain ⟨v', w5, hr, ho, hg5, _⟩ := run_append_own (P := Try.prog) (W.alloc (.cells #[.int .i64 a, .int .i64 c, .int .i64 m] 48)) B 32 ty 48 i _ 3 24 Try.underlying32 hi hz0 hz1 hz2 rfl (by decide) v n xs (own_more h _) ⟨W.heap.size, 0, none⟩ 1 1 [.int .i64 a, .int .i64 c, .int .i64 m] (by simp)
    (fun j u hj => by
      rw [addr_off, Nat.zero_add, hx.cell]
      rw [← List.getElem?_toArray] at hj
      exact hj)
    (fun u hu => by
      simp at hu
      rcases hu with rfl | rfl | rfl <;> rfl) (by unfold maxLen; omega) (by omega) (by simp; omega)
  exact ⟨v', w5, hr, ho, hg5⟩
theorem flat_neg_take {ps : List Po} {j : Nat} {y : Po} (h : ps[j]? = some y) : flat (negP (ps.take (j + 1))) = flat (negP (ps.take j)) ++ [.int .i64 y.a, .int .i64 y.c, .int .i64 (-y.m)] := by
  rw [List.take_add_one, h]
  simp [negP, flat, Po.cells]
set_option maxRecDepth 100000 in
set_option maxHeartbeats 4000000 in
theorem grev_none (i q : Int) (h : Rl w r S O) (hi : i < 0 ∨ (S.L.length : Int) ≤ i) :
    Calls Try.prog 13 #[.pointer (some ⟨r, 0, none⟩), .int .i64 i, .int .i64 q] w (GrR w r S O i q) := by
  have hE : revE S i q = 5 := by
    unfold revE
    by_cases h0 : i < 0
    · rw [if_pos h0]
    · rw [if_neg h0, List.getElem?_eq_none (by omega)]
  obtain ⟨e1, e2⟩ := rev_not hE (by omega)
  have HL := Lib.hid h
  obtain ⟨ve, vs, hw⟩ := h.lw
  obtain ⟨ea, ec, hrc, _⟩ := hw.rc
  have c2 := hrc.2.2
  unfold GrR
  rw [hE, e1, e2]
  clear h hw hrc hE e1 e2
  by_cases h1 : i < 0
  · go_enter Try.func13, Try.ntmps13
    go_wp2_with fail
    go_ret2
    exact ⟨rfl, RlR.same HL.out (Below.refl _ _)⟩
  · have h2 : (S.L.length : Int) ≤ i := by omega
    clear hi
    go_enter Try.func13, Try.ntmps13
    go_wp2_with fail
    go_ret2
    exact ⟨rfl, RlR.same HL.out (Below.refl _ _)⟩
set_option maxRecDepth 100000 in
set_option maxHeartbeats 4000000 in
theorem grev_twice (k : Nat) (q : Int) (x : En) (h : Rl w r S O) (hx : S.L[k]? = some x) (ht : x.tu = true) :
    Calls Try.prog 13 #[.pointer (some ⟨r, 0, none⟩), .int .i64 (k : Int), .int .i64 q] w (GrR w r S O k q) := by
  have hE : revE S k q = 6 := by
    unfold revE
    rw [if_neg (by omega), show ((k : Int)).toNat = k by omega, hx]
    simp [ht]
  obtain ⟨e1, e2⟩ := rev_not hE (by omega)
  have hk := (List.getElem?_eq_some_iff.1 hx).1
  have HL := Lib.hid h
  obtain ⟨ve, vs, hw⟩ := h.lw
  obtain ⟨ea, ec, hrc, hve⟩ := hw.rc
  obtain ⟨g, c, pa, pk, rfl, k1, k2, k3, _, _, _⟩ := hw.at hx
  obtain ⟨rfl, rfl⟩ : ea = some ⟨g, 0, none⟩ ∧ ec = c := by
    injection hve with h1 _ h3
    exact ⟨h1.symm, h3.symm⟩
  have c2 := hrc.2.2
  rw [ht] at k3
  have i0 : ¬ ((k : Int) < 0) := by omega
  have i1 : (0 : Int) ≤ (k : Int) := by omega
  have i2 : (k : Int) < (S.L.length : Int) := by omega
  have i3 : ¬ ((S.L.length : Int) ≤ (k : Int)) := by omega
  unfold GrR
  rw [hE, e1, e2]
  clear h hw hrc hE e1 e2 hx ht k1 k2 hve
  go_enter Try.func13, Try.ntmps13
  go_wp2_with fail
  go_ret2
  exact ⟨rfl, RlR.same HL.out (Below.refl _ _)⟩
set_option maxRecDepth 100000 in
set_option maxHeartbeats 16000000 in
theorem grev_on (k : Nat) (q : Int) (x : En) (h : Rl w r S O) (hx : S.L[k]? = some x) (ht : x.tu = false) :
    Calls Try.prog 13 #[.pointer (some ⟨r, 0, none⟩), .int .i64 (k : Int), .int .i64 q] w (GrR w r S O k q) := by
  have hk := (List.getElem?_eq_some_iff.1 hx).1
  have HX := Lib.hid hx
  have HT := Lib.hid ht
  have HL := Lib.hid h
  have HF := Lib.hid h.fine
  have hok := h.fine.ok x (List.mem_of_getElem? hx)
  have HOk := Lib.hid hok
  have hlen32 := (well_iff.1 hok.well).2.1
  obtain ⟨ve, vs, hw⟩ := h.lw
  obtain ⟨ea, ec, hrc, hve⟩ := hw.rc
  obtain ⟨g, c, pa, pk, rfl, k1, k2, k3, _, hpa, _⟩ := hw.at hx
  obtain ⟨rfl, rfl⟩ : ea = some ⟨g, 0, none⟩ ∧ ec = c := by
    injection hve with h1 _ h3
    exact ⟨h1.symm, h3.symm⟩
  have c2 := hrc.2.2
  have HC2 := Lib.hid c2
  have HK2 := Lib.hid k2
  have HPa := Lib.hid hpa
  rw [ht] at k3
  have i0 : ¬ ((k : Int) < 0) := by omega
  have i1 : (0 : Int) ≤ (k : Int) := by omega
  have i2 : (k : Int) < (S.L.length : Int) := by omega
  have i3 : ¬ ((S.L.length : Int) ≤ (k : Int)) := by omega
  obtain ⟨W0, hW0⟩ : ∃ W0, W0 = w.alloc (.cells #[] 48) := ⟨_, rfl⟩
  have hb0 : Below w.heap.size w W0 := by rw [hW0]; exact boxed _ _
  have hown0 : W0.ownsRow w.heap.size 48 3 (.slice (some ⟨w.heap.size, 0, none⟩) 0 0) 0 [] := ⟨rfl, .inr ⟨w.heap.size, 0, #[], rfl, Nat.le_refl _, by rw [hW0]; exact Has.fresh _ _ _, Nat.le_refl _, by unfold maxLen; omega, rfl, rfl⟩⟩
  have HB0 := Lib.hid hb0
  have HO0 := Lib.hid hown0
  have HW0 := Lib.hid hW0
  unfold GrR
  clear h hw hrc hx ht k1 hve hok hpa hb0 hown0 hW0
  go_enter Try.func13, Try.ntmps13
  go_wp2_with fail
  rw [← HW0.out]
  clear c2 k2 k3
  go_loopw [8, 9] (fun v i wr => ∃ (j : Nat) (A : Option Addr) (C : Nat), j ≤ x.ps.length ∧ i = .int .i64 j ∧ v = .slice A j C ∧ (∀ y ∈ x.ps.take j, y.m ≠ -9223372036854775808) ∧ wr.ownsRow w.heap.size 48 3 (.slice A j C) j (flat (negP (x.ps.take j))) ∧ Below w.heap.size w wr) (fun _ i _ => x.ps.length - (intOf i).toNat)
  case atStart => exact ⟨0, _, _, Nat.zero_le _, rfl, rfl, by simp, HO0.out, HB0.out⟩
  case round =>
    obtain ⟨j, A, C, hj, rfl, rfl, hmin, hown, hb⟩ := hrel
    have HMin := Lib.hid hmin
    have HOwn := Lib.hid hown
    have HB := Lib.hid hb
    have c2 := kcell hb HC2.out
    have k2 := kcell hb HK2.out
    by_cases hlt : j < x.ps.length
    · obtain ⟨y, hy⟩ : ∃ y, x.ps[j]? = some y := ⟨_, List.getElem?_eq_getElem hlt⟩
      have HY := Lib.hid hy
      obtain ⟨f1, f2⟩ : Am y.m := HOk.out.am y (List.mem_of_getElem? hy)
      obtain ⟨b, o, rfl, z0, z1, z2⟩ := (HPa.out.up hb).at hy
      obtain ⟨W1, hW1⟩ : ∃ W1, W1 = wr.alloc (.cells #[.int .i64 y.a, .int .i64 y.c, .int .i64 y.m] 48) := ⟨_, rfl⟩
      have hb1 : Below wr.heap.size wr W1 := by rw [hW1]; exact boxed _ _
      have hX : Has W1 wr.heap.size 48 #[.int .i64 y.a, .int .i64 y.c, .int .i64 y.m] := by rw [hW1]; exact Has.fresh _ _ _
      have x2 : W1.cell? ⟨wr.heap.size, 2, none⟩ = some (.int .i64 y.m) := hX.cell 2
      have HXx := Lib.hid hX
      have HB1 := Lib.hid hb1
      have HW1 := Lib.hid hW1
      have hj0 : (0 : Int) ≤ (j : Int) := by omega
      have hj1 : (j : Int) < (x.ps.length : Int) := by omega
      clear hmin hown hb hy hb1 hX hW1
      go_wp2_with fail
      rw [← HW1.out]
      refine (of_any y.m W1 f1 f2).mono ?_
      rintro e w2 ⟨s1, a1, n1, p1, rfl, hE, hb⟩
      have HE2 := Lib.hid hE
      have HB2 := Lib.hid (up2 HB1.out hb)
      have HX2 : Hid (Has w2 wr.heap.size 48 #[.int .i64 y.a, .int .i64 y.c, .int .i64 y.m]) := HXx.out.up hb
      clear hE hb c2 k2 z0 z1 z2 x2
      go_wp2_with fail
      refine (neg_any s1 y.m a1 n1 p1 w2 HE2.out).mono ?_
      rintro e w3 ⟨s2, a2, n2, p2, rfl, hE, hb⟩
      have HE3 := Lib.hid hE
      have HB3 := Lib.hid (up2 HB2.out hb)
      have HX3 : Hid (Has w3 wr.heap.size 48 #[.int .i64 y.a, .int .i64 y.c, .int .i64 y.m]) := HX2.out.up hb
      clear hE hb
      go_wp2_with fail
      refine (fit_any s2 (-y.m) a2 n2 p2 w3 HE3.out (small_neg (small64 f1 f2))).mono ?_
      rintro e w4 ⟨rfl, hb⟩
      have HB4 := Lib.hid (up2 HB3.out hb)
      have HX4 : Hid (Has w4 wr.heap.size 48 #[.int .i64 y.a, .int .i64 y.c, .int .i64 y.m]) := HX3.out.up hb
      clear hb
      by_cases hm : y.m = -9223372036854775808
      · have e1 : tellE (-y.m) = 3 := by rw [hm]; decide
        have hl : leastB x.ps = true := List.any_eq_true.2 ⟨y, List.mem_of_getElem? HY.out, by simpa using hm⟩
        have hE : revE S k q = 3 := by rw [revE_on HX.out HT.out, if_pos hl]
        obtain ⟨e3, e4⟩ := rev_not hE (by omega)
        have HR : Hid (revN S k q = 0 ∧ revE S k q = 3 ∧ revS S k q = S) := ⟨e3, hE, e4⟩
        rw [e1]
        clear hE e3 e4 hl hm e1
        go_wp2_with fail
        go_ret2
        rw [HR.out.1, HR.out.2.1, HR.out.2.2]
        exact ⟨rfl, RlR.same HL.out (up2 HB.out HB4.out)⟩
      · have hmn : Am (-y.m) := by unfold Am; omega
        obtain ⟨e1, e2⟩ := tell_am hmn
        have hown4 := own_keep HOwn.out (w' := w4) fun g hg => HB4.out.block g (own_ltb HOwn.out hg)
        have hbw := up2 HB.out HB4.out
        obtain ⟨v', W6, hrun, hown6, hg6⟩ := app_post 32 hown4 hbw.size (by omega) y.a y.c (-y.m)
        obtain ⟨A6, C6, rfl⟩ := own_form9 hown6
        have hb5 : Below w.heap.size w (w4.alloc (.cells #[.int .i64 y.a, .int .i64 y.c, .int .i64 (-y.m)] 48)) := hbw.alloc hbw.size _
        have HB6 : Hid (Below w.heap.size w W6) := hb5.grown hg6 hb5.size (fun j hj => (World.ownsRow.lt hown4 j hj).1)
        have HRun := Lib.hid hrun
        have HO6 := Lib.hid hown6
        have HNm := Lib.hid hm
        have x0 : w4.cell? ⟨wr.heap.size, 0, none⟩ = some (.int .i64 y.a) := HX4.out.cell 0
        have x1 : w4.cell? ⟨wr.heap.size, 1, none⟩ = some (.int .i64 y.c) := HX4.out.cell 1
        rw [e1, e2]
        clear hm hmn e1 e2 hown4 hbw hrun hown6 hg6 hb5
        go_wp2_with (first | (at_builtin; refine wpList_run rfl (.tmp 70) (.tmp 77) 32 rfl _ _ rfl rfl (S := fun u q => .slice A6 (j + 1) C6 = u ∧ W6 = q) ⟨_, W6, HRun.out, rfl, rfl⟩ ?_; rintro u5 q5 ⟨rfl, rfl⟩) | fail)
        go_roundw
        case rel =>
          refine ⟨j + 1, A6, C6, by omega, by go_num, rfl, fun z hz => ?_, by rw [flat_neg_take HY.out]; exact HO6.out, HB6.out⟩
          rw [List.take_add_one, HY.out] at hz
          rcases List.mem_append.1 hz with h | h
          · exact HMin.out z h
          · simp at h; rw [h]; exact HNm.out
        case measure => simp [intOf]; omega
    · have hje : j = x.ps.length := by omega
      subst hje
      rw [List.take_length] at HMin HOwn
      have hl : leastB x.ps = false := List.any_eq_false.2 fun y hy => by simpa using HMin.out y hy
      obtain ⟨a5, c5, e5, hp5, _, _⟩ := own_psa HOwn.out
      obtain ⟨rfl, rfl⟩ : A = a5 ∧ C = c5 := by
        injection e5 with h1 _ h3
        exact ⟨h1, h3⟩
      have hnl : (negP x.ps).length = x.ps.length := by simp [negP]
      have HPost := Lib.hid (gpost_any q A C (negP x.ps) (HL.out.up hb) hp5 (neg_ams HOk.out hl))
      rw [hnl] at HPost
      have hEr : revE S k q = postE S q (negP x.ps) := by rw [revE_on HX.out HT.out, if_neg (by rw [hl]; simp)]
      have HEr := Lib.hid hEr
      clear hmin hown hb hl e5 hp5 hnl hEr
      go_wp2_with fail
      refine HPost.out.mono ?_
      rintro e w3 ⟨rfl, h3⟩
      have H3 := Lib.hid (RlR.pre HL.out HB.out h3)
      clear h3 c2 k2
      by_cases hp : postE S q (negP x.ps) = 0
      · have HP0 := Lib.hid hp
        have hps : postS S q (negP x.ps) = posted S q (negP x.ps) := by unfold postS; rw [if_pos hp]
        have hpn : postN S q (negP x.ps) = S.L.length := by unfold postN; rw [if_pos hp]
        have hE0 : revE S k q = 0 := by rw [HEr.out, hp]
        have HRv : Hid (revE S k q = 0 ∧ revN S k q = S.L.length ∧ revS S k q = turned (posted S q (negP x.ps)) k S.L.length) := ⟨hE0, by unfold revN; rw [if_pos hE0], by unfold revS; rw [if_pos hE0, show ((k : Int)).toNat = k by omega, HX.out]⟩
        rw [hps] at H3
        rw [hpn, hp]
        obtain ⟨⟨ve2, vs2, hl3, hin3, hF3, _⟩, hkp3⟩ := H3.out
        have hlen : (posted S q (negP x.ps)).L.length = S.L.length + 1 := by show (S.L ++ [_]).length = _; simp
        have hx3 : (posted S q (negP x.ps)).L[k]? = some x := by
          show (S.L ++ [_])[k]? = _
          rw [List.getElem?_append_left hk]; exact HX.out
        have hy3 : (posted S q (negP x.ps)).L[S.L.length]? = some ⟨q, negP x.ps, false⟩ := by
          show (S.L ++ [_])[S.L.length]? = _
          simp
        obtain ⟨g3, c3, v3, q3, rfl, _, _, m3, mf, _, hpg⟩ := hl3.at hx3
        obtain ⟨g4, c4, v4, q4, e4, _, _, m4, _, _, _⟩ := hl3.at hy3
        obtain rfl : g3 = g4 := by
          injection e4 with e4
          injection e4 with e4
          injection e4
        have hh3 := hl3.head
        rw [hlen] at hl3 hh3 hin3
        have hb3 := (hl3.turn k (by rw [hlen]; omega)).turn S.L.length (by show S.L.length < (List.modify _ _ _).length; rw [List.length_modify]; omega)
        rw [← turned_two] at hb3
        have p2 : w3.cell? ⟨r, 2, none⟩ = some (.slice (some ⟨g3, 0, none⟩) (S.L.length + 1) c3) := hh3.cell 2
        have hend : RlR w r O (turned (posted S q (negP x.ps)) k S.L.length) ((w3.setCell ⟨g3, k * 3 + 2, none⟩ (.bool true)).setCell ⟨g3, S.L.length * 3 + 2, none⟩ (.bool true)) := by
          have hOg : O g3 ∨ w.heap.size ≤ g3 := (hin3.ve g3 rfl).imp id fun h => h.1
          refine RlR.of HL.out hb3 (hin3.mono fun b hb => hb.imp id fun h => h.1) (fine_turned hF3 _ _) ?_
          refine (hkp3.trans (Kp.set (O := fun b => b = g3) _ _ _ rfl) ?_).trans (Kp.set (O := fun b => b = g3) _ _ _ rfl) ?_
          · rintro b rfl; exact hOg
          · rintro b rfl; exact hOg
        have HE := Lib.hid hend
        have f1 : w3.frozen? ⟨g3, k * 3 + 2, none⟩ = false := mf _
        have f2 : w3.frozen? ⟨g3, S.L.length * 3 + 2, none⟩ = false := mf _
        have z1 : (w3.setCell ⟨g3, k * 3 + 2, none⟩ (.bool true)).cell? ⟨r, 2, none⟩ = some (.slice (some ⟨g3, 0, none⟩) (S.L.length + 1) c3) := cset p2 (.inl hpg)
        have hne : g3 ≠ g3 ∨ S.L.length * 3 + 2 ≠ k * 3 + 2 := .inr (by omega)
        have m5 := cset (v := .bool false) (x := .bool true) (b := g3) (o := k * 3 + 2) m4 hne
        have f5 := fset (x := .bool true) (b := g3) (o := k * 3 + 2) f2
        have hfew := HF.out.few
        have j1 : (0 : Int) ≤ (S.L.length : Int) := by omega
        have j2 : (k : Int) < ((S.L.length : Nat) : Int) + 1 := by omega
        have j3 : (S.L.length : Int) < ((S.L.length : Nat) : Int) + 1 := by omega
        clear hp hps hpn hE0 hl3 hin3 hF3 hkp3 hlen hx3 hy3 mf e4 hh3 hb3 hend hne
        go_wp2_with fail
        go_ret2
        rw [HRv.out.1, HRv.out.2.1, HRv.out.2.2]
        exact ⟨rfl, HE.out⟩
      · have e1 : (postE S q (negP x.ps) == 0) = false := by simpa using hp
        have hps : postS S q (negP x.ps) = S := by unfold postS; rw [if_neg hp]
        have hpn : postN S q (negP x.ps) = 0 := by unfold postN; rw [if_neg hp]
        obtain ⟨e3, e4⟩ := rev_not HEr.out hp
        have HR : Hid (revN S k q = 0 ∧ revE S k q = postE S q (negP x.ps) ∧ revS S k q = S) := ⟨e3, HEr.out, e4⟩
        rw [hps] at H3
        rw [hpn]
        clear hp hps hpn e3 e4
        go_wp2_with fail
        go_ret2
        rw [HR.out.1, HR.out.2.1, HR.out.2.2]
        exact ⟨rfl, H3.out⟩
theorem grev_any (i q : Int) (h : Rl w r S O) : Calls Try.prog 13 #[.pointer (some ⟨r, 0, none⟩), .int .i64 i, .int .i64 q] w (GrR w r S O i q) := by
  by_cases hi : i < 0 ∨ (S.L.length : Int) ≤ i
  · exact grev_none i q h hi
  · obtain ⟨k, rfl⟩ : ∃ k : Nat, i = k := ⟨i.toNat, by omega⟩
    have hx : S.L[k]? = some (S.L[k]'(by omega)) := List.getElem?_eq_getElem _
    generalize S.L[k]'(by omega) = x at hx
    cases ht : x.tu
    · exact grev_on k q x h hx ht
    · exact grev_twice k q x h hx ht
end
end Go.Proofs.Ytginbgclifdfiaa
namespace Go.Proofs.Ytginbgclifdfiaa
open Go.RowKit

/-- the program's ledger tells S', the reference's S; neither has blocks of the other's, nor of these -/
def Du (X : Nat → Prop) (w : World) (p r : Nat) (S S' : Ld) : Prop :=
  ∃ O1 O2, Lg w p S' O1 ∧ Rl w r S O2 ∧ (∀ b, O1 b → ¬ O2 b) ∧ ∀ b, X b → ¬ O1 b ∧ ¬ O2 b
section
variable {w w' : World} {p r : Nat} {S S' : Ld} {X : Nat → Prop}
theorem Du.up (h : Du X w p r S S') (q : Below w.heap.size w w') : Du X w' p r S S' := by
  obtain ⟨O1, O2, h1, h2, h3, h4⟩ := h
  exact ⟨O1, O2, h1.up q, h2.up q, h3, h4⟩
theorem Du.mono {X' : Nat → Prop} (h : Du X w p r S S') (q : ∀ b, X' b → X b) : Du X' w p r S S' := by
  obtain ⟨O1, O2, h1, h2, h3, h4⟩ := h
  exact ⟨O1, O2, h1, h2, h3, fun b hb => h4 b (q b hb)⟩
/-- a new block beside them -/
theorem Du.box (h : Du X w p r S S') (q : Below w.heap.size w w') : Du (fun b => X b ∨ b = w.heap.size) w' p r S S' := by
  obtain ⟨O1, O2, h1, h2, h3, h4⟩ := h
  refine ⟨O1, O2, h1.up q, h2.up q, h3, fun b hb => ?_⟩
  rcases hb with hb | rfl
  · exact h4 b hb
  · exact ⟨fun z => by have := h1.bd _ z; omega, fun z => by have := h2.bd _ z; omega⟩
theorem Du.lg (h : Du X w p r S S') : ∃ O, Lg w p S' O := by obtain ⟨O1, O2, h1, _⟩ := h; exact ⟨O1, h1⟩
theorem Du.rl (h : Du X w p r S S') : ∃ O, Rl w r S O := by obtain ⟨O1, O2, _, h2, _⟩ := h; exact ⟨O2, h2⟩
theorem Du.fine (h : Du X w p r S S') : Fine S := by obtain ⟨O, h⟩ := h.rl; exact h.fine
/-- where a call of the program has gone on -/
theorem Du.left {O1 O2 : Nat → Prop} {T : Ld} (h2 : Rl w r S O2) (h3 : ∀ b, O1 b → ¬ O2 b) (h4 : ∀ b, X b → b < w.heap.size ∧ ¬ O1 b ∧ ¬ O2 b) (h : LgR w p O1 T w') : Du X w' p r S T ∧ Kp (fun b => ¬ X b) w w' := by
  refine ⟨⟨Nw O1 w w', O2, h.1, h2.keep h.2.size fun b hb ho => h.2.block b hb fun z => h3 b z ho, fun b hb ho => ?_, fun b hb => ⟨fun z => ?_, (h4 b hb).2.2⟩⟩, h.2.os, h.2.tape, h.2.output, h.2.size, fun b hb hx => h.2.block b hb fun z => hx fun y => (h4 b y).2.1 z⟩
  · rcases hb with hb | hb
    · exact h3 b hb ho
    · have := h2.bd b ho; omega
  · rcases z with z | z
    · exact (h4 b hb).2.1 z
    · have := (h4 b hb).1; omega
theorem Du.right {O1 O2 : Nat → Prop} {T : Ld} (h1 : Lg w p S' O1) (h3 : ∀ b, O1 b → ¬ O2 b) (h4 : ∀ b, X b → b < w.heap.size ∧ ¬ O1 b ∧ ¬ O2 b) (h : RlR w r O2 T w') : Du X w' p r T S' ∧ Kp (fun b => ¬ X b) w w' := by
  refine ⟨⟨O1, Nw O2 w w', h1.keep h.2.size fun b hb ho => h.2.block b hb fun z => h3 b ho z, h.1, fun b hb ho => ?_, fun b hb => ⟨(h4 b hb).2.1, fun z => ?_⟩⟩, h.2.os, h.2.tape, h.2.output, h.2.size, fun b hb hx => h.2.block b hb fun z => hx fun y => (h4 b y).2.2 z⟩
  · rcases ho with ho | ho
    · exact h3 b hb ho
    · have := h1.bd b hb; omega
  · rcases z with z | z
    · exact (h4 b hb).2.2 z
    · have := (h4 b hb).1; omega
/-- an operation of both, told -/
def DuR (X : Nat → Prop) (w : World) (p r : Nat) (S S' : Ld) (v : Value) (e : Ending) (w' : World) : Prop := e = .returned v ∧ Du X w' p r S S' ∧ Kp (fun b => ¬ X b) w w'
theorem du_do (x : Oq) (h : Du X w p r S S') (hX : ∀ b, X b → b < w.heap.size) (hx : OpA w x) (hp : ∀ ad, x.ps ≠ [] → x.a = some ad → X ad.block) :
    Calls Try.prog 11 #[.pointer (some ⟨p, 0, none⟩), .agg x.cells] w (DuR X w p r S (opS S' x) (.tuple #[.int .i64 (opN S' x), .int .i64 (opE S' x)])) := by
  obtain ⟨O1, O2, h1, h2, h3, h4⟩ := h
  refine (do_any9 x h1 hx (fun hne ad e z => (h4 _ (hp ad hne e)).1 z)).mono ?_
  rintro e w' ⟨rfl, hr⟩
  exact ⟨rfl, Du.left h2 h3 (fun b hb => ⟨hX b hb, h4 b hb⟩) hr⟩
theorem du_post (q : Int) (a : Option Addr) (cap : Nat) (ps : List Po) (h : Du X w p r S S') (hX : ∀ b, X b → b < w.heap.size) (hp : PsA w a ps) (hm : Ams ps) :
    Calls Try.prog 12 #[.pointer (some ⟨r, 0, none⟩), .int .i64 q, .slice a ps.length cap] w (DuR X w p r (postS S q ps) S' (.tuple #[.int .i64 (postN S q ps), .int .i64 (postE S q ps)])) := by
  obtain ⟨O1, O2, h1, h2, h3, h4⟩ := h
  refine (gpost_any q a cap ps h2 hp hm).mono ?_
  rintro e w' ⟨rfl, hr⟩
  exact ⟨rfl, Du.right h1 h3 (fun b hb => ⟨hX b hb, h4 b hb⟩) hr⟩
theorem du_rev (i q : Int) (h : Du X w p r S S') (hX : ∀ b, X b → b < w.heap.size) :
    Calls Try.prog 13 #[.pointer (some ⟨r, 0, none⟩), .int .i64 i, .int .i64 q] w (DuR X w p r (revS S i q) S' (.tuple #[.int .i64 (revN S i q), .int .i64 (revE S i q)])) := by
  obtain ⟨O1, O2, h1, h2, h3, h4⟩ := h
  refine (grev_any i q h2).mono ?_
  rintro e w' ⟨rfl, hr⟩
  exact ⟨rfl, Du.right h1 h3 (fun b hb => ⟨hX b hb, h4 b hb⟩) hr⟩
theorem du_clo (q : Int) (h : Du X w p r S S') (hX : ∀ b, X b → b < w.heap.size) :
    Calls Try.prog 14 #[.pointer (some ⟨r, 0, none⟩), .int .i64 q] w (DuR X w p r (cloS S q) S' (.int .i64 (cloE S q))) := by
  obtain ⟨O1, O2, h1, h2, h3, h4⟩ := h
  refine (gclose_any q h2).mono ?_
  rintro e w' ⟨rfl, hr⟩
  exact ⟨rfl, Du.right h1 h3 (fun b hb => ⟨hX b hb, h4 b hb⟩) hr⟩
/-- what is asked of them -/
def Ask (w : World) (v : Value) (e : Ending) (w' : World) : Prop := e = .returned v ∧ Below w.heap.size w w'
theorem du_open (h : Du X w p r S S') : Calls Try.prog 15 #[.pointer (some ⟨p, 0, none⟩)] w fun e w' => e = .returned (.int .i64 (S'.op : Int)) ∧ w = w' := by obtain ⟨O, h⟩ := h.lg; exact open_any h
theorem du_many (h : Du X w p r S S') : Calls Try.prog 16 #[.pointer (some ⟨p, 0, none⟩)] w fun e w' => e = .returned (.int .i64 (S'.L.length : Int)) ∧ w = w' := by obtain ⟨O, h⟩ := h.lg; exact many_any h
theorem du_tot (a q : Int) (h : Du X w p r S S') (ha : Am a) : Calls Try.prog 17 #[.pointer (some ⟨p, 0, none⟩), .int .i64 a, .int .i64 q] w (Ask w (.tuple #[.int .i64 (totV S' a q), .int .i64 (totE S' a q)])) := by obtain ⟨O, h⟩ := h.lg; exact total_any a q h ha
theorem du_mov (a c q : Int) (h : Du X w p r S S') (ha : Am a) (hc : Am c) : Calls Try.prog 19 #[.pointer (some ⟨p, 0, none⟩), .int .i64 a, .int .i64 c, .int .i64 q] w (Ask w (.int .i64 (movV S' a c q))) := by
  obtain ⟨O, h⟩ := h.lg
  refine (moved_any a c q h ha hc).mono ?_
  rintro e w' ⟨rfl, rfl⟩
  exact ⟨rfl, Below.refl _ _⟩
theorem du_bal (a c q : Int) (h : Du X w p r S S') (ha : Am a) (hc : Am c) : Calls Try.prog 21 #[.pointer (some ⟨p, 0, none⟩), .int .i64 a, .int .i64 c, .int .i64 q] w (Ask w (.int .i64 (balV S' a c q))) := by obtain ⟨O, h⟩ := h.lg; exact balance_any a c q h ha hc
theorem dg_tot (a q : Int) (h : Du X w p r S S') : Calls Try.prog 18 #[.pointer (some ⟨r, 0, none⟩), .int .i64 a, .int .i64 q] w (Ask w (.tuple #[.int .i64 (totV S a q), .int .i64 (totE S a q)])) := by obtain ⟨O, h⟩ := h.rl; exact gtot_any a q h
theorem dg_mov (a c q : Int) (h : Du X w p r S S') : Calls Try.prog 20 #[.pointer (some ⟨r, 0, none⟩), .int .i64 a, .int .i64 c, .int .i64 q] w (Ask w (.int .i64 (movV S a c q))) := by obtain ⟨O, h⟩ := h.rl; exact gmoved_any a c q h
theorem dg_bal (a c q : Int) (h : Du X w p r S S') : Calls Try.prog 22 #[.pointer (some ⟨r, 0, none⟩), .int .i64 a, .int .i64 c, .int .i64 q] w (Ask w (.int .i64 (balV S a c q))) := by obtain ⟨O, h⟩ := h.rl; exact gbal_any a c q h
theorem du_ent (i : Int) (h : Du X w p r S S') : Calls Try.prog 23 #[.pointer (some ⟨p, 0, none⟩), .int .i64 i] w (EntR w S' i) := by obtain ⟨O, h⟩ := h.lg; exact entry_any i h
theorem Du.rc (h : Du X w p r S S') : ∃ a c, Rc w r S a c := by
  obtain ⟨O, h⟩ := h.rl
  obtain ⟨ve, vs, h⟩ := h.lw
  obtain ⟨a, c, h, _⟩ := h.rc
  exact ⟨a, c, h⟩
theorem Du.at (h : Du X w p r S S') {i : Nat} {e : En} (he : S.L[i]? = some e) : ∃ g c a k, Rc w r S (some ⟨g, 0, none⟩) c ∧ w.cell? ⟨g, i * 3, none⟩ = some (.int .i64 e.per) ∧ w.cell? ⟨g, i * 3 + 1, none⟩ = some (.slice a e.ps.length k) ∧ PsA w a e.ps := by
  obtain ⟨O, h⟩ := h.rl
  obtain ⟨ve, vs, h⟩ := h.lw
  obtain ⟨ea, ec, hrc, hve⟩ := h.rc
  obtain ⟨g, c, a, k, e1, h1, h2, _, _, h3, _⟩ := h.at he
  rw [e1] at hve
  injection hve with q1 _ q3
  exact ⟨g, c, a, k, by rw [q1, q3]; exact hrc, h1, h2, h3⟩
end
end Go.Proofs.Ytginbgclifdfiaa
