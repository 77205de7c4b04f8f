/- refuse; slices.Clone of postings. -/
import Derived.Test.YtginbgclifdfiaaAcO
namespace Go.Proofs.Ytginbgclifdfiaa
open Go.RowKit

section
variable {w w' : World} {p m : Nat} {S : Ld} {O : Nat → Prop}
def Ams (ps : List Po) : Prop := ∀ x ∈ ps, Am x.a ∧ Am x.c ∧ Am x.m
set_option maxRecDepth 100000 in
set_option maxHeartbeats 4000000 in
theorem refuse_any (q : Int) (a : Option Addr) (n cap : Nat) (ps : List Po) (h : Lg w p S O) (hp : PsA w a ps) (hn : ps.length = n) (hm : Ams ps) :
    Calls Try.prog 42 #[.pointer (some ⟨p, 0, none⟩), .int .i64 q, .slice a n cap] w fun e w' => e = .returned (.int .i64 (refE S q ps)) ∧ Below w.heap.size w w' := by
  have hF := h.fine
  have HL := Lib.hid h
  obtain ⟨m, ve, vs, rows, h, _⟩ := h
  obtain ⟨av, capv, rfl⟩ := own_form9 h.ents
  obtain ⟨c0, c1, c2, c3⟩ := h.lc
  have HHas := Lib.hid (has_cells (w := w) (p := p) (S := S) q c0)
  have HWell := Lib.hid (well_any w a n cap ps hp hn)
  clear h
  cases hq : hasB S q
  · rw [hq] at HHas
    have hr : refE S q ps = 1 := by
      unfold hasB at hq
      unfold refE
      rw [if_pos (by simp at hq; omega)]
    rw [hr]
    clear hq hr c1 c2 c3 c0 hF HL
    go_enter Try.func42, Try.ntmps42
    go_wp2_with fail
    refine HHas.out.mono ?_
    rintro e w2 ⟨rfl, rfl⟩
    go_wp2_with fail
    go_ret
    exact ⟨rfl, Below.refl _ _⟩
  · rw [hq] at HHas
    cases hw : wellB ps
    · rw [hw] at HWell
      have hr : refE S q ps = 1 := by unfold refE; rw [if_pos (.inr (.inr hw))]
      rw [hr]
      clear hq hw hr c1 c2 c3 c0 hF HL
      go_enter Try.func42, Try.ntmps42
      go_wp2_with fail
      refine HHas.out.mono ?_
      rintro e w2 ⟨rfl, rfl⟩
      go_wp2_with fail
      refine HWell.out.mono ?_
      rintro e w3 ⟨rfl, hb⟩
      have HB := Lib.hid hb
      clear hb
      go_wp2_with fail
      go_ret
      exact ⟨rfl, HB.out⟩
    · rw [hw] at HWell
      have hwell := well_iff.1 hw
      have n1 : ¬ (q < 0 ∨ (S.n : Int) ≤ q ∨ wellB ps = false) := by
        rw [hw]
        unfold hasB at hq
        simp at hq
        simp; omega
      by_cases ho : q < S.op
      · have hr : refE S q ps = 7 := by unfold refE; rw [if_neg n1, if_pos ho]
        rw [hr]
        clear hq hw hr c2 c3 c0 hF n1 hwell
        go_enter Try.func42, Try.ntmps42
        go_wp2_with fail
        refine HHas.out.mono ?_
        rintro e w2 ⟨rfl, rfl⟩
        go_wp2_with fail
        refine HWell.out.mono ?_
        rintro e w3 ⟨rfl, hb⟩
        have HB := Lib.hid hb
        have d1 := kcell hb c1
        clear hb c1
        go_wp2_with fail
        go_ret
        exact ⟨rfl, HB.out⟩
      · have HEv : Hid (∀ W, Below w.heap.size w W → Calls Try.prog 52 #[.slice a n cap] W fun e w' => e = .returned (.bool (evenB ps)) ∧ Below W.heap.size W w') := fun W hb =>
          even_any W a n cap ps (hp.up hb) hn (by omega) (by omega) fun x hx => ⟨(hm x hx).2.1, (hm x hx).2.2⟩
        cases he : evenB ps
        · rw [he] at HEv
          have hr : refE S q ps = 10 := by unfold refE; rw [if_neg n1, if_neg ho, if_pos he]
          rw [hr]
          clear hq hw hr c2 c3 c0 hF n1 hwell he
          go_enter Try.func42, Try.ntmps42
          go_wp2_with fail
          refine HHas.out.mono ?_
          rintro e w2 ⟨rfl, rfl⟩
          go_wp2_with fail
          refine HWell.out.mono ?_
          rintro e w3 ⟨rfl, hb⟩
          have HB := Lib.hid hb
          have d1 := kcell hb c1
          clear hb c1
          go_wp2_with fail
          refine (HEv.out _ HB.out).mono ?_
          rintro e w4 ⟨rfl, hb⟩
          have HB4 := Lib.hid (up2 HB.out hb)
          clear hb d1
          go_wp2_with fail
          go_ret
          exact ⟨rfl, HB4.out⟩
        · rw [he] at HEv
          have hr : refE S q ps = if 5000 ≤ S.L.length then 4 else 0 := by unfold refE; rw [if_neg n1, if_neg ho, if_neg (by rw [he]; simp)]
          have hfew := hF.few
          by_cases hfull : S.L.length = 5000
          · rw [hr, if_pos (by omega)]
            have hf : ((S.L.length : Int) == 5000) = true := by rw [hfull]; rfl
            clear hq hw hr c3 c0 hF n1 hwell he hfew hfull
            go_enter Try.func42, Try.ntmps42
            go_wp2_with fail
            refine HHas.out.mono ?_
            rintro e w2 ⟨rfl, rfl⟩
            go_wp2_with fail
            refine HWell.out.mono ?_
            rintro e w3 ⟨rfl, hb⟩
            have HB := Lib.hid hb
            have d1 := kcell hb c1
            clear hb c1
            go_wp2_with fail
            refine (HEv.out _ HB.out).mono ?_
            rintro e w4 ⟨rfl, hb⟩
            have HB4 := Lib.hid (up2 HB.out hb)
            have d2 := kcell HB4.out c2
            clear hb d1 c2
            go_wp2_with fail
            go_ret
            exact ⟨rfl, HB4.out⟩
          · rw [hr, if_neg (by omega)]
            have hf : ((S.L.length : Int) == 5000) = false := by simp; omega
            clear hq hw hr c3 c0 hF n1 hwell he hfew hfull
            go_enter Try.func42, Try.ntmps42
            go_wp2_with fail
            refine HHas.out.mono ?_
            rintro e w2 ⟨rfl, rfl⟩
            go_wp2_with fail
            refine HWell.out.mono ?_
            rintro e w3 ⟨rfl, hb⟩
            have HB := Lib.hid hb
            have d1 := kcell hb c1
            clear hb c1
            go_wp2_with fail
            refine (HEv.out _ HB.out).mono ?_
            rintro e w4 ⟨rfl, hb⟩
            have HB4 := Lib.hid (up2 HB.out hb)
            have d2 := kcell HB4.out c2
            clear hb d1 c2
            go_wp2_with fail
            go_ret
            exact ⟨rfl, HB4.out⟩

theorem flat_get {ps : List Po} {j : Nat} {u : Value} (h : (flat ps)[j]? = some u) : ∃ i x r, j = i * 3 + r ∧ ps[i]? = some x ∧ x.cells[r]? = some u ∧ r < 3 := by
  induction ps generalizing j with
  | nil => simp [flat] at h
  | cons x l ih =>
    have e : flat (x :: l) = x.cells ++ flat l := by simp [flat]
    have hl : x.cells.length = 3 := rfl
    rw [e] at h
    by_cases hj : j < 3
    · rw [List.getElem?_append_left (by omega)] at h
      exact ⟨0, x, j, by omega, rfl, h, hj⟩
    · rw [List.getElem?_append_right (by omega), hl] at h
      obtain ⟨i, y, r, h1, h2, h3, h4⟩ := ih h
      exact ⟨i + 1, y, r, by omega, h2, h3, h4⟩
theorem flat_len (ps : List Po) : (flat ps).length = ps.length * 3 := by
  induction ps with
  | nil => rfl
  | cons x l ih =>
    have e : flat (x :: l) = x.cells ++ flat l := by simp [flat]
    rw [e, List.length_append, ih]
    simp [Po.cells]; omega
theorem flat_cell {ps : List Po} {i : Nat} {x : Po} (h : ps[i]? = some x) : (flat ps)[i * 3]? = some (.int .i64 x.a) ∧ (flat ps)[i * 3 + 1]? = some (.int .i64 x.c) ∧ (flat ps)[i * 3 + 2]? = some (.int .i64 x.m) := by
  induction ps generalizing i with
  | nil => simp at h
  | cons y l ih =>
    have e : flat (y :: l) = y.cells ++ flat l := by simp [flat]
    have hl : y.cells.length = 3 := rfl
    cases i with
    | zero => simp at h; subst h; rw [e]; exact ⟨rfl, rfl, rfl⟩
    | succ i =>
      obtain ⟨h1, h2, h3⟩ := ih (by simpa using h)
      rw [e, List.getElem?_append_right (by omega), List.getElem?_append_right (by omega), List.getElem?_append_right (by omega), hl]
      exact ⟨by rw [← h1]; congr 1; omega, by rw [← h2]; congr 1; omega, by rw [← h3]; congr 1; omega⟩
/-- a row of postings of one's own reads as postings -/
theorem own_psa {base n : Nat} {v : Value} {ps : List Po} (h : w.ownsRow base 48 3 v n (flat ps)) : ∃ a c, v = .slice a n c ∧ PsA w a ps ∧ ps.length = n ∧ (a = none → n = 0 ∧ c = 0) := by
  have hl : ps.length = n := by have := h.1; rw [flat_len] at this; omega
  rcases h.2 with ⟨rfl, h2⟩ | ⟨g, cap, cur, rfl, _, hh, _⟩
  · subst h2
    exact ⟨none, 0, rfl, .inl (List.eq_nil_of_length_eq_zero hl), hl, fun _ => ⟨rfl, rfl⟩⟩
  · refine ⟨_, cap, rfl, .inr ⟨g, 0, rfl, fun i x hx => ?_⟩, hl, fun q => by cases q⟩
    have hi : i < ps.length := (List.getElem?_eq_some_iff.1 hx).1
    obtain ⟨f1, f2, f3⟩ := flat_cell hx
    have k1 := World.ownsRow.cellAt (w := w) h (i * 3) (by omega)
    have k2 := World.ownsRow.cellAt (w := w) h (i * 3 + 1) (by omega)
    have k3 := World.ownsRow.cellAt (w := w) h (i * 3 + 2) (by omega)
    rw [f1] at k1; rw [f2] at k2; rw [f3] at k3
    rw [Nat.zero_add]
    exact ⟨k1, k2, k3⟩
theorem infoPost : (Try.prog.info? 48).map (fun i => (i.zero, i.size, i.bytes)) = some (some (.agg #[.int .i64 0, .int .i64 0, .int .i64 0]), 3, 24) := by kernel_rfl
set_option maxRecDepth 100000 in
set_option maxHeartbeats 2000000 in
theorem clone_any (ad : Addr) (n cap : Nat) (ps : List Po) (hp : PsA w (some ad) ps) (hn : ps.length = n) (h1 : 1 ≤ n) (h2 : n ≤ 1000) :
    Calls Try.prog 38 #[.slice (some ad) n cap] w fun e w' => ∃ v, e = .returned v ∧ w'.ownsRow w.heap.size 48 3 v n (flat ps) ∧ Below w.heap.size w w' := by
  obtain ⟨i, hi, hz0, hz1, hz2⟩ := info_parts infoPost
  obtain ⟨W1, hW1⟩ : ∃ W1, W1 = w.alloc (.cells #[] 48) := ⟨_, rfl⟩
  have hb1 : Below w.heap.size w W1 := by rw [hW1]; exact boxed _ _
  have hg : Has W1 w.heap.size 48 #[] := by rw [hW1]; exact Has.fresh _ _ _
  have hs1 : W1.heap.size = w.heap.size + 1 := by rw [hW1]; simp
  have hown : W1.ownsRow w.heap.size 48 3 (.slice (some ⟨w.heap.size, 0, none⟩) 0 0) 0 [] := ⟨rfl, .inr ⟨w.heap.size, 0, #[], rfl, Nat.le_refl _, hg, Nat.le_refl _, by unfold maxLen; omega, rfl, rfl⟩⟩
  have hp1 := hp.up hb1
  obtain ⟨v', w5, hr, ho, hg5, _⟩ := run_append_own (P := Try.prog) W1 w.heap.size 32 32 48 i _ 3 24 Try.underlying32 hi hz0 hz1 hz2 rfl (by decide) _ 0 [] hown ad n cap (flat ps) (by rw [flat_len, hn])
    (fun j u hj => by
      obtain ⟨i, x, r, rfl, hx, hu, hr⟩ := flat_get hj
      rcases hp1 with hp1 | ⟨b, o, e, hp1⟩
      · subst hp1; simp at hn; omega
      · obtain rfl : ad = ⟨b, o, none⟩ := Option.some.inj e
        rw [addr_off]
        have := hp1 i x hx
        match r, hr, hu with
        | 0, _, hu => simp [Po.cells] at hu; subst hu; exact this.1
        | 1, _, hu => simp [Po.cells] at hu; subst hu; exact this.2.1
        | 2, _, hu => simp [Po.cells] at hu; subst hu; exact this.2.2)
    (fun u hu => by
      obtain ⟨j, hj⟩ := List.getElem?_of_mem hu
      obtain ⟨i, x, r, rfl, hx, hu, hr⟩ := flat_get hj
      match r, hr, hu with
      | 0, _, hu => simp [Po.cells] at hu; subst hu; rfl
      | 1, _, hu => simp [Po.cells] at hu; subst hu; rfl
      | 2, _, hu => simp [Po.cells] at hu; subst hu; rfl) (by unfold maxLen; omega) (by omega) (by omega)
  rw [List.nil_append, Nat.zero_add] at ho
  have hb5 : Below w.heap.size w w5 := hb1.grown hg5 (by omega) (fun j hj => by simp [Value.ownBlock] at hj; omega)
  have en := Lib.run_eql_slice_nil (P := Try.prog) w 32 48 (some ad) n cap 0 0 Try.underlying32
  have HR := Lib.hid hr
  have HO := Lib.hid ho
  have HB := Lib.hid hb5
  have HW1 := Lib.hid hW1
  clear hp hn hi hz0 hz1 hz2 hb1 hg hs1 hown hp1 hg5 hb5 hr ho hW1
  go_enter Try.func38, Try.ntmps38
  go_wp2_with (first | (rw [← HW1.out]; refine wpList_run rfl (.tmp 5) (.tmp 6) 32 rfl _ _ rfl rfl (S := fun u q => u = v' ∧ q = w5) ⟨v', w5, HR.out, rfl, rfl⟩ ?_; rintro u q ⟨rfl, rfl⟩) | fail)
  go_ret
  exact ⟨_, rfl, HO.out, HB.out⟩
end
end Go.Proofs.Ytginbgclifdfiaa
