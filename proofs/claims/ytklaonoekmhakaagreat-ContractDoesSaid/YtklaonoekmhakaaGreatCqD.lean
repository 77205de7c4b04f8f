/- The reference's contract: Tell, Allotted, Earned; a track of it that turns. -/
import Derived.Test.YtklaonoekmhakaaGreatCqA
import Derived.Test.YtklaonoekmhakaaGreatCfS
import Derived.Test.YtklaonoekmhakaaGreatBoD
namespace Go.Proofs.YtklaonoekmhakaaGreat
open Go.RowKit

section
variable {w w' : World} {c : Nat} {P : List (Nat × Nat)} {S : Ct} {T : List Trk} {tv : Value}
theorem Tqs.lt (h : Tqs w P T) {x : Nat × Nat} (hx : x ∈ P) : (∃ cs, Has w x.1 61 cs) ∧ ∃ cs, Has w x.2 57 cs := by
  obtain ⟨t, ht⟩ := List.getElem?_of_mem hx
  have hl := (List.getElem?_eq_some_iff.1 ht).1
  rw [h.len] at hl
  obtain ⟨sv, hq⟩ := h.trk t x _ ht (List.getElem?_eq_getElem hl)
  obtain ⟨la, lc, tv, hg⟩ := hq.log
  exact ⟨⟨_, hq.has⟩, ⟨_, hg.has⟩⟩
/-- one of the tracks turns -/
theorem Tqs.turn (h : Tqs w P T) {t : Nat} {x : Nat × Nat} (hx : P[t]? = some x) {y : Trk} (z : TqR w x.1 x.2 y.d y.E y.L w') : Tqs w' P (T.set t y) := by
  have hxl := h.lt (List.mem_of_getElem? hx)
  obtain ⟨⟨cr, hr⟩, ⟨ck, hk⟩⟩ := hxl
  refine ⟨by rw [List.length_set]; exact h.len, fun s u v hu hv => ?_, h.apart⟩
  rw [List.getElem?_set] at hv
  by_cases q : t = s
  · subst q
    rw [if_pos rfl] at hv
    split at hv
    · rw [hx] at hu
      injection hu with hu
      injection hv with hv
      subst hu; subst hv
      exact z.1
    · cases hv
  · rw [if_neg q] at hv
    have hap : Apart x u := by
      have h1 := (List.getElem?_eq_some_iff.1 hx)
      have h2 := (List.getElem?_eq_some_iff.1 hu)
      have hp := List.pairwise_iff_getElem.1 h.apart
      rcases Nat.lt_or_gt_of_ne q with q1 | q1
      · have := hp t s h1.1 h2.1 q1
        rw [h1.2, h2.2] at this; exact this
      · have := hp s t h2.1 h1.1 q1
        rw [h1.2, h2.2] at this; exact ⟨fun e => this.1 e.symm, fun e => this.2 e.symm⟩
    refine (h.trk s u v hu hv).keep fun g T' cs hh hT h1 h2 => z.2.has hh fun e => ?_
    rcases hT with rfl | rfl | rfl | rfl | rfl
    · rcases e with e | e
      · exact hap.1 (e.symm.trans (h1 rfl))
      · exact (hh.ne hk (by decide)) e
    · rcases e with e | e
      · exact (hh.ne hr (by decide)) e
      · exact hap.2 (e.symm.trans (h2 rfl))
    · rcases e with e | e
      · exact (hh.ne hr (by decide)) e
      · exact (hh.ne hk (by decide)) e
    · rcases e with e | e
      · exact (hh.ne hr (by decide)) e
      · exact (hh.ne hk (by decide)) e
    · rcases e with e | e
      · exact (hh.ne hr (by decide)) e
      · exact (hh.ne hk (by decide)) e
/-- blocks of other types than a contract's, a track's and a log's stay -/
theorem Tqs.other (h : Tqs w P T) {x : Nat × Nat} (hx : x ∈ P) (z : Kp (fun g => g = x.1 ∨ g = x.2) w w') {g T' : Nat} {cs : Array Value} (hh : Has w g T' cs) (h1 : T' ≠ 61) (h2 : T' ≠ 57) : Has w' g T' cs := by
  obtain ⟨⟨cr, hr⟩, ⟨ck, hk⟩⟩ := h.lt hx
  exact z.has hh fun e => e.elim (hh.ne hr h1) (hh.ne hk h2)
theorem CqX.cell3 (h : CqX w c P S tv) : ∃ a k, w.cell? ⟨c, 3, none⟩ = some (.slice a S.n k) ∧ PtA w a P := by
  obtain ⟨a, k, rfl, hrow⟩ := h.row
  have := h.has.cell 3
  simp at this
  rw [h.n] at this
  exact ⟨a, k, this, hrow⟩
set_option maxRecDepth 100000 in
set_option maxHeartbeats 2000000 in
theorem qcallot_any (h : CqX w c P S tv) (at' : Int) : Calls Tryz.prog 22 #[.pointer (some ⟨c, 0, none⟩), .int .i64 at'] w fun e w' => e = .returned (.int .i64 (if at' < 0 ∨ (S.n : Int) ≤ at' then 0 else S.alt at'.toNat)) ∧ Below w.heap.size w w' := by
  obtain ⟨a, k, c3, hrow⟩ := h.cell3
  have hn := h.n
  by_cases q : at' < 0 ∨ (S.n : Int) ≤ at'
  · rw [if_pos q]
    generalize S.n = n at c3 q
    clear h hrow hn
    rcases q with q | q
    · go_enter Tryz.func22, Tryz.ntmps22
      go_wp2_with fail
      go_ret
      exact ⟨rfl, Below.refl _ _⟩
    · by_cases q2 : at' < 0
      · go_enter Tryz.func22, Tryz.ntmps22
        go_wp2_with fail
        go_ret
        exact ⟨rfl, Below.refl _ _⟩
      · go_enter Tryz.func22, Tryz.ntmps22
        go_wp2_with fail
        go_ret
        exact ⟨rfl, Below.refl _ _⟩
  · rw [if_neg q]
    obtain ⟨t, rfl⟩ : ∃ t : Nat, at' = (t : Int) := ⟨at'.toNat, by omega⟩
    rw [Int.toNat_natCast]
    have ht : t < S.n := by omega
    obtain ⟨x, hx⟩ : ∃ x, P[t]? = some x := ⟨P[t]'(by rw [hn]; exact ht), List.getElem?_eq_getElem _⟩
    obtain ⟨b, o, rfl, z0⟩ := pt_at hrow hx
    obtain ⟨sv, hq⟩ := h.trs.at hx
    have HQ := Lib.hid (qallot_any hq)
    have HQ : Hid (Calls Tryz.prog 47 #[.pointer (some ⟨x.1, 0, none⟩)] w fun e w' => e = .returned (.int .i64 (S.alt t)) ∧ Below w.heap.size w w') := HQ
    generalize S.alt t = v at HQ ⊢
    have i0 : ¬ (t : Int) < 0 := by omega
    have i1 : (0 : Int) ≤ (t : Int) := by omega
    generalize S.n = n at c3 q ht
    have i2 : (t : Int) < (n : Int) := by omega
    have i3 : ¬ (n : Int) ≤ (t : Int) := by omega
    clear h hrow hn q ht hx hq
    go_enter Tryz.func22, Tryz.ntmps22
    go_wp2_with fail
    refine HQ.out.mono ?_
    rintro e w1 ⟨rfl, hb⟩
    have HB := Lib.hid hb
    clear hb
    go_wp2_with fail
    go_ret
    exact ⟨rfl, HB.out⟩
set_option maxRecDepth 100000 in
set_option maxHeartbeats 2000000 in
theorem qcearned_any (h : CqX w c P S tv) (at' day : Int) : Calls Tryz.prog 24 #[.pointer (some ⟨c, 0, none⟩), .int .i64 at', .int .i64 day] w fun e w' => e = .returned (.int .i64 (if at' < 0 ∨ (S.n : Int) ≤ at' then 0 else S.ear day at'.toNat)) ∧ Below w.heap.size w w' := by
  obtain ⟨a, k, c3, hrow⟩ := h.cell3
  have hn := h.n
  by_cases q : at' < 0 ∨ (S.n : Int) ≤ at'
  · rw [if_pos q]
    generalize S.n = n at c3 q
    clear h hrow hn
    rcases q with q | q
    · go_enter Tryz.func24, Tryz.ntmps24
      go_wp2_with fail
      go_ret
      exact ⟨rfl, Below.refl _ _⟩
    · by_cases q2 : at' < 0
      · go_enter Tryz.func24, Tryz.ntmps24
        go_wp2_with fail
        go_ret
        exact ⟨rfl, Below.refl _ _⟩
      · go_enter Tryz.func24, Tryz.ntmps24
        go_wp2_with fail
        go_ret
        exact ⟨rfl, Below.refl _ _⟩
  · rw [if_neg q]
    obtain ⟨t, rfl⟩ : ∃ t : Nat, at' = (t : Int) := ⟨at'.toNat, by omega⟩
    rw [Int.toNat_natCast]
    have ht : t < S.n := by omega
    obtain ⟨x, hx⟩ : ∃ x, P[t]? = some x := ⟨P[t]'(by rw [hn]; exact ht), List.getElem?_eq_getElem _⟩
    obtain ⟨b, o, rfl, z0⟩ := pt_at hrow hx
    obtain ⟨sv, hq⟩ := h.trs.at hx
    have HQ := Lib.hid (qearned_any hq day)
    have HQ : Hid (Calls Tryz.prog 37 #[.pointer (some ⟨x.1, 0, none⟩), .int .i64 day] w fun e w' => e = .returned (.int .i64 (S.ear day t)) ∧ Below w.heap.size w w') := HQ
    generalize S.ear day t = v at HQ ⊢
    have i0 : ¬ (t : Int) < 0 := by omega
    have i1 : (0 : Int) ≤ (t : Int) := by omega
    generalize S.n = n at c3 q ht
    have i2 : (t : Int) < (n : Int) := by omega
    have i3 : ¬ (n : Int) ≤ (t : Int) := by omega
    clear h hrow hn q ht hx hq
    go_enter Tryz.func24, Tryz.ntmps24
    go_wp2_with fail
    refine HQ.out.mono ?_
    rintro e w1 ⟨rfl, hb⟩
    have HB := Lib.hid hb
    clear hb
    go_wp2_with fail
    go_ret
    exact ⟨rfl, HB.out⟩
/-- a contract one of whose tracks was told something -/
theorem CqX.told (h : CqX w c P S tv) {t : Nat} {x : Nat × Nat} (hx : P[t]? = some x) {day n : Int} (z : TqR w x.1 x.2 (S.tr t).d (telS (S.tr t).d.me (S.tr t).E day n) (S.tr t).L w') : CqR w c P (S.telS (t : Int) day n) w' := by
  have hl := (List.getElem?_eq_some_iff.1 hx).1
  rw [h.n] at hl
  have hm := List.mem_of_getElem? hx
  have e : S.telS (t : Int) day n = ⟨S.N, S.la, S.ch, S.T.set t ⟨(S.tr t).d, telS (S.tr t).d.me (S.tr t).E day n, (S.tr t).L⟩⟩ := by
    unfold Ct.telS
    rw [if_neg (by omega), Int.toNat_natCast]
  have hF := h.fine.tel (t : Int) day n
  rw [e] at hF ⊢
  have hro : w'.ownsRow 0 62 1 tv P.length (P.flatMap ptC) := by
    refine ⟨h.own.1, ?_⟩
    rcases h.own.2 with q | ⟨g, cap, cur, e, q3, q4, q5⟩
    · exact .inl q
    · exact .inr ⟨g, cap, cur, e, q3, h.trs.other hm z.2 q4 (by decide) (by decide), q5⟩
  refine ⟨⟨tv, ⟨h.trs.other hm z.2 h.has (by decide) (by decide), hro, h.trs.turn hx z, hF⟩⟩, ⟨z.2.os, z.2.tape, z.2.output, z.2.size, fun b hb hn => z.2.block b hb fun e => hn (.inr ⟨x, hm, e⟩)⟩⟩
set_option maxRecDepth 100000 in
set_option maxHeartbeats 2000000 in
theorem qctell_any (h : CqX w c P S tv) (at' day m : Int) (hm : Am m) : Calls Tryz.prog 14 #[.pointer (some ⟨c, 0, none⟩), .int .i64 at', .int .i64 day, .int .i64 m] w fun e w' => e = .returned (.int .i64 (S.telE at' day m)) ∧ CqR w c P (S.telS at' day m) w' := by
  obtain ⟨a, k, c3, hrow⟩ := h.cell3
  have hn := h.n
  by_cases q : at' < 0 ∨ (S.n : Int) ≤ at'
  · have e1 : S.telE at' day m = 5 := by unfold Ct.telE; rw [if_pos q]
    have e2 : S.telS at' day m = S := by unfold Ct.telS; rw [if_pos q]
    rw [e1, e2]
    have HS := Lib.hid (CqR.same ⟨tv, h⟩ (Below.refl w.heap.size w))
    generalize S.n = n at c3 q
    clear h hrow hn e1 e2
    rcases q with q | q
    · go_enter Tryz.func14, Tryz.ntmps14
      go_wp2_with fail
      go_ret
      exact ⟨rfl, HS.out⟩
    · by_cases q2 : at' < 0
      · go_enter Tryz.func14, Tryz.ntmps14
        go_wp2_with fail
        go_ret
        exact ⟨rfl, HS.out⟩
      · go_enter Tryz.func14, Tryz.ntmps14
        go_wp2_with fail
        go_ret
        exact ⟨rfl, HS.out⟩
  · obtain ⟨t, rfl⟩ : ∃ t : Nat, at' = (t : Int) := ⟨at'.toNat, by omega⟩
    have ht : t < S.n := by omega
    obtain ⟨x, hx⟩ : ∃ x, P[t]? = some x := ⟨P[t]'(by rw [hn]; exact ht), List.getElem?_eq_getElem _⟩
    obtain ⟨b, o, rfl, z0⟩ := pt_at hrow hx
    have HTo := Lib.hid (fun (w' : World) (z : TqR w x.1 x.2 (S.tr t).d (telS (S.tr t).d.me (S.tr t).E day m) (S.tr t).L w') => h.told hx z)
    obtain ⟨sv, hq⟩ := h.trs.at hx
    have HQ := Lib.hid (qtold_any hq day m hm)
    unfold QchR at HQ
    have r0 := hq.has.cell 0
    simp at r0
    have e1 : S.telE (t : Int) day m = telE (S.tr t).d.me (S.tr t).E day m := by unfold Ct.telE; rw [if_neg q, Int.toNat_natCast]
    have HQ : Hid (Calls Tryz.prog 43 #[.pointer (some ⟨x.2, 0, none⟩), .int .i64 day, .int .i64 m] w fun e w' => e = .returned (.int .i64 (telE (S.tr t).d.me (S.tr t).E day m)) ∧ TqR w x.1 x.2 (S.tr t).d (telS (S.tr t).d.me (S.tr t).E day m) (S.tr t).L w') := HQ
    rw [← e1] at HQ
    generalize S.telE (t : Int) day m = X at HQ ⊢
    generalize S.telS (t : Int) day m = S' at HTo ⊢
    have i0 : ¬ (t : Int) < 0 := by omega
    have i1 : (0 : Int) ≤ (t : Int) := by omega
    generalize S.n = n at c3 q ht
    have i2 : (t : Int) < (n : Int) := by omega
    have i3 : ¬ (n : Int) ≤ (t : Int) := by omega
    clear h hrow hn q ht hx hq e1
    go_enter Tryz.func14, Tryz.ntmps14
    go_wp2_with fail
    refine HQ.out.mono ?_
    rintro e w1 ⟨rfl, hz⟩
    have HR := Lib.hid (HTo.out _ hz)
    clear hz
    go_wp2_with fail
    go_ret
    exact ⟨rfl, HR.out⟩
end
end Go.Proofs.YtklaonoekmhakaaGreat

namespace Go.Proofs.YtklaonoekmhakaaGreat
open Go.RowKit

/-- the first tracks turned -/
def midT (T : List Trk) (g : Nat → Trk → Trk) (j : Nat) : List Trk := T.mapIdx fun t x => if t < j then g t x else x
section
variable {T : List Trk} {g : Nat → Trk → Trk} {j : Nat}
theorem midT_zero : midT T g 0 = T := by
  apply List.ext_getElem?
  intro i
  unfold midT
  rw [List.getElem?_mapIdx]
  cases T[i]? <;> simp
theorem midT_all (h : T.length ≤ j) : midT T g j = T.mapIdx g := by
  apply List.ext_getElem?
  intro i
  unfold midT
  rw [List.getElem?_mapIdx, List.getElem?_mapIdx]
  by_cases q : i < T.length
  · rw [List.getElem?_eq_getElem q]
    simp only [Option.map_some]
    rw [if_pos (by omega)]
  · rw [List.getElem?_eq_none (by omega)]; rfl
theorem midT_at (h : j < T.length) : (midT T g j).getD j trk0 = T.getD j trk0 := by
  unfold midT
  rw [List.getD_eq_getElem?_getD, List.getD_eq_getElem?_getD, List.getElem?_mapIdx, List.getElem?_eq_getElem h]
  simp
theorem midT_step (h : j < T.length) : (midT T g j).set j (g j (T.getD j trk0)) = midT T g (j + 1) := by
  apply List.ext_getElem?
  intro i
  rw [List.getElem?_set]
  unfold midT
  rw [List.length_mapIdx, List.getElem?_mapIdx, List.getElem?_mapIdx]
  by_cases q : j = i
  · subst q
    rw [if_pos rfl, if_pos h, List.getElem?_eq_getElem h, List.getD_eq_getElem?_getD, List.getElem?_eq_getElem h]
    simp
  · rw [if_neg q]
    cases T[i]? with
    | none => rfl
    | some x =>
      simp only [Option.map_some]
      by_cases q2 : i < j
      · rw [if_pos q2, if_pos (by omega)]
      · rw [if_neg q2, if_neg (by omega)]
end
section
variable {w0 w w' : World} {c : Nat} {P : List (Nat × Nat)} {S : Ct} {T : List Trk} {tv : Value}
/-- a track's and its obligation's alone -/
theorem Tqs.alone (h : Tqs w P T) {t : Nat} {x : Nat × Nat} (hx : P[t]? = some x) : w.cell? ⟨x.1, 0, none⟩ = some (.pointer (some ⟨x.2, 0, none⟩)) ∧ w.cell? ⟨x.2, 1, none⟩ = some (.int .i64 (T.getD t trk0).d.al) := by
  obtain ⟨sv, hq⟩ := h.at hx
  obtain ⟨la, lc, tv, hg⟩ := hq.log
  exact ⟨by simpa using hq.has.cell 0, by simpa using hg.has.cell 1⟩
/-- on the way through the tracks of a change: the first ones have turned -/
structure Cmid (w0 w : World) (c : Nat) (P : List (Nat × Nat)) (S : Ct) (g : Nat → Trk → Trk) (tv : Value) (p : Nat) (v : Nat → Int) (j : Nat) : Prop where
  has : Has w c 45 #[.int .i64 S.N, .int .i64 S.la, .int .i64 (S.ch : Int), tv]
  own : w.ownsRow 0 62 1 tv P.length (P.flatMap ptC)
  trs : Tqs w P (midT S.T g j)
  lst : Ints w p S.n v
  far : ∀ x ∈ P, p ≠ x.1 ∧ p ≠ x.2
  kp : Kp (Cqs c P) w0 w
theorem Cmid.start {g : Nat → Trk → Trk} {p : Nat} {v : Nat → Int} (h : CqX w c P S tv) (hb : Below w0.heap.size w0 w) (hl : Ints w p S.n v) (hf : ∀ x ∈ P, p ≠ x.1 ∧ p ≠ x.2) : Cmid w0 w c P S g tv p v 0 :=
  ⟨h.has, h.own, by rw [midT_zero]; exact h.trs, hl, hf, Kp.of hb⟩
theorem Cmid.up {g : Nat → Trk → Trk} {p j : Nat} {v : Nat → Int} (h : Cmid w0 w c P S g tv p v j) (hb : Below w.heap.size w w') : Cmid w0 w' c P S g tv p v j :=
  ⟨h.has.up hb, own_up h.own hb, h.trs.up hb, fun t ht => by
    have h1 := h.lst t ht
    have hlt : p < w.heap.size := World.block_lt_of_cell? (a := ⟨p, t, none⟩) _ h1.1
    exact ⟨kcell hb h1.1, (World.frozen?_of_block (w := w) (hb.block p hlt)).trans h1.2⟩, h.far, h.kp.trans (Kp.of (O := Cqs c P) hb) (fun _ q => .inl q)⟩
theorem Cmid.step {g : Nat → Trk → Trk} {p j : Nat} {v : Nat → Int} (h : Cmid w0 w c P S g tv p v j) (hj : j < S.n) {x : Nat × Nat} (hx : P[j]? = some x) (z : TqR w x.1 x.2 (g j (S.tr j)).d (g j (S.tr j)).E (g j (S.tr j)).L w') : Cmid w0 w' c P S g tv p v (j + 1) := by
  have hm := List.mem_of_getElem? hx
  refine ⟨h.trs.other hm z.2 h.has (by decide) (by decide), ?_, ?_, fun t ht => ?_, h.far, h.kp.trans z.2 fun b e => .inl (.inr ⟨x, hm, e⟩)⟩
  · refine ⟨h.own.1, ?_⟩
    rcases h.own.2 with q | ⟨g', cap, cur, e, q3, q4, q5⟩
    · exact .inl q
    · exact .inr ⟨g', cap, cur, e, q3, h.trs.other hm z.2 q4 (by decide) (by decide), q5⟩
  · have := h.trs.turn hx z
    rw [show S.tr j = S.T.getD j trk0 from rfl, midT_step hj] at this
    exact this
  · have h1 := h.lst t ht
    have hlt : p < w.heap.size := World.block_lt_of_cell? (a := ⟨p, t, none⟩) _ h1.1
    have hf := h.far x hm
    have hbk := z.2.block p hlt (fun e => e.elim hf.1 hf.2)
    exact ⟨(World.cell?_of_block (a := ⟨p, t, none⟩) hbk).trans h1.1, (World.frozen?_of_block (a := ⟨p, t, none⟩) hbk).trans h1.2⟩
theorem Cmid.at {g : Nat → Trk → Trk} {p j : Nat} {v : Nat → Int} (h : Cmid w0 w c P S g tv p v j) (hj : j < S.n) {x : Nat × Nat} (hx : P[j]? = some x) : Tq w x.1 x.2 (S.tr j).d (S.tr j).E (S.tr j).L := by
  have := h.trs.at hx
  rw [midT_at hj] at this
  exact this
/-- the cells that a round reads -/
theorem Cmid.cells {g : Nat → Trk → Trk} {p j : Nat} {v : Nat → Int} {ta : Option Addr} {tk : Nat} (h : Cmid w0 w c P S g (.slice ta P.length tk) p v j) {t : Nat} (ht : t < S.n) {x : Nat × Nat} (hx : P[t]? = some x) {tb tof : Nat} (e : ta = some ⟨tb, tof, none⟩) :
    w.cell? ⟨c, 3, none⟩ = some (.slice ta P.length tk) ∧ w.cell? ⟨tb, tof + t, none⟩ = some (.pointer (some ⟨x.1, 0, none⟩)) ∧ w.cell? ⟨p, t, none⟩ = some (.int .i64 (v t)) := by
  obtain ⟨b, o, e2, z⟩ := pt_at (own_rws pt_len h.own rfl).1 hx
  rw [e] at e2
  injection e2 with e2
  injection e2 with e3 e4
  subst e3; subst e4
  exact ⟨by simpa using h.has.cell 3, z, (h.lst t ht).1⟩
/-- .. and the contract's own cells -/
theorem Cmid.done {g : Nat → Trk → Trk} {p : Nat} {v : Nat → Int} (h : Cmid w0 w c P S g tv p v S.n) {N la : Int} {ch : Nat} (hF : FineC ⟨N, la, ch, S.T.mapIdx g⟩) :
    CqR w0 c P ⟨N, la, ch, S.T.mapIdx g⟩ (((w.setCell ⟨c, 0, none⟩ (.int .i64 N)).setCell ⟨c, 1, none⟩ (.int .i64 la)).setCell ⟨c, 2, none⟩ (.int .i64 (ch : Int))) := by
  have hg : w.grownBy (((w.setCell ⟨c, 0, none⟩ (.int .i64 N)).setCell ⟨c, 1, none⟩ (.int .i64 la)).setCell ⟨c, 2, none⟩ (.int .i64 (ch : Int))) (some c) := grown_trans (grown_trans (grown_set _ _ _ _) (grown_set _ _ _ _)) (grown_set _ _ _ _)
  refine ⟨⟨tv, ((h.has.put 0 _).put 1 _).put 2 _, own_beside h.own h.has (by decide) hg, ?_, hF⟩, h.kp.trans (Kp.grown (O := Cqs c P) hg fun j hj => .inl (.inl (Option.some.inj hj).symm)) (fun _ q => .inl q)⟩
  have ht := h.trs
  rw [show midT S.T g S.n = S.T.mapIdx g from midT_all (Nat.le_refl _)] at ht
  exact ⟨ht.len, fun t x y hx hy => (ht.trk t x y hx hy).keep fun g' T' cs hh hT _ _ => (hg.block g' hh.lt fun e => (hh.ne h.has (by rcases hT with rfl | rfl | rfl | rfl | rfl <;> decide)) (Option.some.inj e)).trans hh, ht.apart⟩
end
end Go.Proofs.YtklaonoekmhakaaGreat

namespace Go.Proofs.YtklaonoekmhakaaGreat
open Go.RowKit

/-- what a change answers, and leaves -/
def ConR (w : World) (c : Nat) (P : List (Nat × Nat)) (S' : Ct) (X : Int) (e : Ending) (w' : World) : Prop := e = .returned (.int .i64 X) ∧ CqR w c P S' w'
section
variable {w w' : World} {c : Nat} {P : List (Nat × Nat)} {S S' : Ct} {tv : Value}
theorem ConR.no {X : Int} (hS : S' = S) (h : CqX w c P S tv) (hb : Below w.heap.size w w') : ConR w c P S' X (.returned (.int .i64 X)) w' := ⟨rfl, by rw [hS]; exact CqR.same ⟨tv, h⟩ hb⟩
set_option maxRecDepth 100000 in
set_option maxHeartbeats 16000000 in
theorem qconward_any (h : CqX w c P S tv) (day more : Int) (hm : Am more) : Calls Tryz.prog 12 #[.pointer (some ⟨c, 0, none⟩), .int .i64 day, .int .i64 more] w (ConR w c P (S.onwS day more) (S.onwE day more)) := by
  obtain ⟨ta, tk, rfl, hrow⟩ := h.row
  have c3 := h.has.cell 3
  simp at c3
  rw [h.n] at c3
  have HFar : Hid (∀ x ∈ P, x.1 < w.heap.size ∧ x.2 < w.heap.size) := Lib.hid fun x hx => by
    obtain ⟨⟨_, h1⟩, ⟨_, h2⟩⟩ := h.trs.lt hx
    exact ⟨h1.lt, h2.lt⟩
  have HH := Lib.hid h
  have HM := Lib.hid (qcmay_any h day more hm)
  unfold MayR at HM
  have HAll := Lib.hid (fun (W : World) (q : Below w.heap.size w W) => qcall_any (h.up q) day)
  have HR := Lib.hid hrow
  have HC3 := Lib.hid c3
  have hn := h.n
  have HNl := Lib.hid hn
  have hl := h.fine.n1
  have HF := Lib.hid h.fine
  have HTq := Lib.hid (fun (W : World) (q : Below w.heap.size w W) => (h.up q).trs)
  have hno : ∀ X, S.onwE day more = X → X ≠ 0 → S.onwS day more = S := fun X h1 h2 => by unfold Ct.onwS; rw [if_neg (by rw [h1]; exact h2)]
  have HNo := Lib.hid hno
  have HMay0 := Lib.hid (fun (q : S.may day more = 0) => (Ct.may0 q).2.2.2.2)
  obtain ⟨n, hnn⟩ : ∃ n, n = S.n := ⟨_, rfl⟩
  rw [← hnn] at c3 HC3 hl HNl
  have HNn := Lib.hid hnn
  obtain ⟨M, hM⟩ : ∃ M, M = S.may day more := ⟨_, rfl⟩
  rw [← hM] at HM
  have HMe := Lib.hid hM
  obtain ⟨A, hA⟩ : ∃ A, A = S.all day := ⟨_, rfl⟩
  rw [← hA] at HAll
  have HAe := Lib.hid hA
  obtain ⟨X, hX⟩ : ∃ X, X = S.onwE day more := ⟨_, rfl⟩
  obtain ⟨S', hS'⟩ : ∃ S', S' = S.onwS day more := ⟨_, rfl⟩
  rw [← hX, ← hS']
  have HXe := Lib.hid hX
  have HSe := Lib.hid hS'
  clear h hrow hn hno hm hnn hM hA hX hS'
  go_enter Tryz.func12, Tryz.ntmps12
  go_wp2_with fail
  refine HM.out.mono ?_
  rintro e w1 ⟨V, rfl, hV, hb⟩
  have HB1 := Lib.hid hb
  have HVe := Lib.hid hV
  clear hb hV c3
  by_cases q1 : M = 0
  rotate_left
  · have q1' : (M != 0) = true := by simpa using q1
    have hX : S.onwE day more = M := by unfold Ct.onwE; rw [if_pos (by rw [← HMe.out]; exact q1), ← HMe.out]
    have HX := Lib.hid hX
    have HQ1 := Lib.hid q1
    clear q1 hX
    go_wp2_with fail
    go_ret
    exact ⟨by rw [HXe.out, HX.out]; rfl, by rw [HSe.out, HNo.out _ HX.out HQ1.out]; exact CqR.same ⟨_, HH.out⟩ HB1.out⟩
  have q1' : (M != 0) = false := by simpa using q1
  have HV := Lib.hid (HVe.out q1)
  have HVa : Hid (Am V) := Lib.hid (by rw [HV.out]; exact HMay0.out (by rw [← HMe.out]; exact q1))
  have HQ1 := Lib.hid q1
  have HC := Lib.hid (HAll.out _ HB1.out)
  clear q1
  go_wp2_with fail
  refine HC.out.mono ?_
  rintro e w2 ⟨rfl, hb⟩
  have HB2 := Lib.hid (up2 HB1.out hb)
  clear hb
  by_cases q2 : V < A
  · have hX : S.onwE day more = 1 := by unfold Ct.onwE; rw [if_neg (by rw [← HMe.out, HQ1.out]; simp), if_pos (by rw [← HV.out, ← HAe.out]; exact q2)]
    have HX := Lib.hid hX
    clear hX
    go_wp2_with fail
    go_ret
    exact ⟨by rw [HXe.out, HX.out]; rfl, by rw [HSe.out, HNo.out _ HX.out (by decide)]; exact CqR.same ⟨_, HH.out⟩ HB2.out⟩
  have hX0 : S.onwE day more = if S.ends day S.n = true then 1 else againE (S.N + more) (S.ear day) S.n (S.wei day) S.n := by
    unfold Ct.onwE; rw [if_neg (by rw [← HMe.out, HQ1.out]; simp), if_neg (by rw [← HV.out, ← HAe.out]; exact q2)]
  have HX0 := Lib.hid hX0
  clear hX0
  go_wp2_with fail
  obtain ⟨W3, hW3⟩ : ∃ W3, W3 = (w2.alloc (.cells #[] 2)).alloc (.cells #[] 2) := ⟨_, rfl⟩
  have hg1 : Has W3 w2.heap.size 2 #[] := by rw [hW3]; exact (Has.fresh w2 _ _).up (boxed _ _)
  have hg2 : Has W3 (w2.heap.size + 1) 2 #[] := by
    rw [hW3]
    have := Has.fresh (w2.alloc (.cells #[] 2)) 2 #[]
    rw [show (w2.alloc (.cells #[] 2)).heap.size = w2.heap.size + 1 by simp] at this
    exact this
  have HO3 := Lib.hid (owl_two (B := w2.heap.size) hg1 hg2 (by omega) (Nat.le_refl _) (Nat.le_succ _))
  have HB3 : Hid (Below w.heap.size w W3) := by rw [hW3]; exact Lib.hid (up2 HB2.out (up2 (boxed _ _) (boxed _ _)))
  have HB23 : Hid (w2.heap.size ≤ W3.heap.size) := by rw [hW3]; exact Lib.hid (by simp; omega)
  rw [← hW3]
  clear hW3 hg1 hg2
  have HV0 : Hid (valsTo (S.ear day) 0 = [] ∧ valsTo (S.wei day) 0 = []) := Lib.hid ⟨rfl, rfl⟩
  obtain ⟨B, hB⟩ : ∃ B, B = w2.heap.size := ⟨_, rfl⟩
  rw [← hB] at HO3 HB23 ⊢
  have HBB : Hid (w.heap.size ≤ B) := by rw [hB]; exact Lib.hid HB2.out.size
  clear hB
  go_loopw [9, 10, 11, 12] (fun d u al i wr => ∃ j : Nat, j ≤ n ∧ i = .int .i64 (j : Int) ∧ al = .bool (S.ends day j) ∧ ∃ a1 c1 a2 c2, d = .slice a1 j c1 ∧ u = .slice a2 j c2 ∧ OwL wr B [⟨2, 1, .slice a1 j c1, j, valsTo (S.ear day) j⟩, ⟨2, 1, .slice a2 j c2, j, valsTo (S.wei day) j⟩] ∧ Below w.heap.size w wr ∧ B ≤ wr.heap.size) (fun _ _ _ i _ => n - (intOf i).toNat)
  case atStart => exact ⟨0, Nat.zero_le _, rfl, rfl, _, _, _, _, rfl, rfl, HO3.out, HB3.out, HB23.out⟩
  case round =>
    obtain ⟨j, hj, rfl, rfl, a1, c1, a2, c2, rfl, rfl, hO, hb, hs⟩ := hrel
    have HO := Lib.hid hO
    have HB := Lib.hid hb
    have HS := Lib.hid hs
    have c3 := kcell hb HC3.out
    clear hO hb hs
    by_cases hlt : j < n
    · obtain ⟨x, hx⟩ : ∃ x, P[j]? = some x := ⟨P[j]'(by rw [HNl.out]; exact hlt), List.getElem?_eq_getElem _⟩
      obtain ⟨tb, tof, ht, z0⟩ := pt_at (HR.out.up HB.out) hx
      subst ht
      have hjS : j < S.n := by rw [← HNn.out]; exact hlt
      have HAt := Lib.hid (fun (W : World) (q : Below w.heap.size w W) => (HTq.out W q).at hx)
      have HAlo := Lib.hid (fun (W : World) (q : Below w.heap.size w W) => (HTq.out W q).alone hx)
      have HEa : Hid (∀ W, Below w.heap.size w W → Calls Tryz.prog 37 #[.pointer (some ⟨x.1, 0, none⟩), .int .i64 day] W fun e w' => e = .returned (.int .i64 (S.ear day j)) ∧ Below W.heap.size W w') := Lib.hid fun W q => by
        obtain ⟨sv, hq⟩ := HAt.out W q
        exact qearned_any hq day
      have HWh : Hid (∀ W, Below w.heap.size w W → Calls Tryz.prog 38 #[.pointer (some ⟨x.1, 0, none⟩), .int .i64 day] W fun e w' => e = .returned (.bool (S.whoB day j)) ∧ Below W.heap.size W w') := Lib.hid fun W q => by
        obtain ⟨sv, hq⟩ := HAt.out W q
        exact qwhole_any hq day
      have HAl2 : Hid (∀ W, Below w.heap.size w W → W.cell? ⟨x.1, 0, none⟩ = some (.pointer (some ⟨x.2, 0, none⟩)) ∧ W.cell? ⟨x.2, 1, none⟩ = some (.int .i64 (S.alo j))) := Lib.hid fun W q => HAlo.out W q
      have hse : valsTo (S.ear day) (j + 1) = valsTo (S.ear day) j ++ [.int .i64 (S.ear day j)] := valsTo_step _ _
      have hsw : valsTo (S.wei day) (j + 1) = valsTo (S.wei day) j ++ [.int .i64 (S.wei day j)] := valsTo_step _ _
      have hsn : S.ends day (j + 1) = (S.ends day j && S.whoB day j) := rfl
      have hww : S.wei day j = if S.whoB day j = true then 0 else S.alo j := rfl
      have HSe := Lib.hid hse
      have HSw := Lib.hid hsw
      have HSn := Lib.hid hsn
      have HWw := Lib.hid hww
      obtain ⟨ev, hev⟩ : ∃ ev, ev = S.ear day j := ⟨_, rfl⟩
      obtain ⟨wv, hwv⟩ : ∃ wv, wv = S.wei day j := ⟨_, rfl⟩
      obtain ⟨bo, hbo⟩ : ∃ bo, bo = S.whoB day j := ⟨_, rfl⟩
      obtain ⟨en, hen⟩ : ∃ en, en = S.ends day j := ⟨_, rfl⟩
      obtain ⟨av, hav⟩ : ∃ av, av = S.alo j := ⟨_, rfl⟩
      rw [← hev] at HEa HSe
      rw [← hwv] at HSw HWw
      rw [← hbo] at HWh HSn HWw
      rw [← hen] at HSn ⊢
      rw [← hav] at HAl2 HWw
      have i0 : (0 : Int) ≤ (j : Int) := by omega
      have i1 : (j : Int) < (n : Int) := by omega
      have e1 : IntKind.i64.wrap ((j : Int) + 1) = (j : Int) + 1 := IntWalk.i64_in _ (by omega)
      have HEa1 := Lib.hid (HEa.out _ HB.out)
      clear hx hse hsw hsn hww hev hwv hbo hen hav hjS
      go_wp2_with fail
      refine HEa1.out.mono ?_
      rintro e w4 ⟨rfl, hb⟩
      have HB4 := Lib.hid (up2 HB.out hb)
      have HO4 := Lib.hid (HO.out.up hb)
      have HS4 : Hid (B ≤ w4.heap.size) := Lib.hid (Nat.le_trans HS.out hb.size)
      clear hb z0 c3
      -- the first append
      obtain ⟨W5, hW5⟩ : ∃ W5, W5 = w4.alloc (.cells #[.int .i64 ev] 2) := ⟨_, rfl⟩
      have hb5 : Below w4.heap.size w4 W5 := by rw [hW5]; exact boxed _ _
      obtain ⟨a3, c4, w6, hr6, ho6, hb6, hs6⟩ := owl_num (w0 := w) (HO4.out.up hb5) (i := 0) (k := j) rfl (by omega) (y := w4.heap.size) (by rw [hW5]; exact Has.fresh _ _ _) (up2 HB4.out hb5) HBB.out (Nat.le_trans HS4.out hb5.size) 64
      have HR6 := Lib.hid hr6
      have HO6 := Lib.hid ho6
      have HB6 := Lib.hid hb6
      have HS6 := Lib.hid hs6
      have HW5 := Lib.hid hW5
      have HWh6 := Lib.hid (HWh.out _ HB6.out)
      clear hr6 ho6 hb6 hs6 hb5 hW5
      go_wp2_with (first | (rw [← HW5.out]; refine wpList_run (o := ⟨some 55, _, _, _, _, _⟩) rfl (.tmp 50) (.tmp 54) 64 rfl _ _ rfl rfl (S := fun u q => u = .slice a3 (j + 1) c4 ∧ q = w6) ⟨_, w6, HR6.out, rfl, rfl⟩ ?_; rintro u q ⟨rfl, rfl⟩) | fail)
      refine HWh6.out.mono ?_
      rintro e w7 ⟨rfl, hb⟩
      have HB7 := Lib.hid (up2 HB6.out hb)
      have HO7 := Lib.hid (HO6.out.up hb)
      have HS7 : Hid (B ≤ w7.heap.size) := Lib.hid (Nat.le_trans HS6.out hb.size)
      clear hb
      cases hq : bo with
      | true =>
        have hw0 : wv = 0 := by rw [HWw.out, hq]; rfl
        obtain ⟨W8, hW8⟩ : ∃ W8, W8 = w7.alloc (.cells #[.int .i64 0] 2) := ⟨_, rfl⟩
        have hb8 : Below w7.heap.size w7 W8 := by rw [hW8]; exact boxed _ _
        obtain ⟨a5, c5, w9, hr9, ho9, hb9, hs9⟩ := owl_num (w0 := w) (HO7.out.up hb8) (i := 1) (k := j) rfl (by omega) (y := w7.heap.size) (z := 0) (by rw [hW8]; exact Has.fresh _ _ _) (up2 HB7.out hb8) HBB.out (Nat.le_trans HS7.out hb8.size) 64
        have HR9 := Lib.hid hr9
        have HO9 := Lib.hid ho9
        have HB9 := Lib.hid hb9
        have HS9 := Lib.hid hs9
        have HW8 := Lib.hid hW8
        have HW0 := Lib.hid hw0
        have HQ := Lib.hid hq
        clear hr9 ho9 hb9 hs9 hb8 hW8 hw0 hq
        go_wp2_with (first | (rw [← HW8.out]; refine wpList_run (o := ⟨some 61, _, _, _, _, _⟩) rfl (.tmp 59) (.tmp 60) 64 rfl _ _ rfl rfl (S := fun u q => u = .slice a5 (j + 1) c5 ∧ q = w9) ⟨_, w9, HR9.out, rfl, rfl⟩ ?_; rintro u q ⟨rfl, rfl⟩) | fail)
        refine ⟨⟨j + 1, by omega, by go_num, by rw [HSn.out, HQ.out]; simp, _, _, _, _, rfl, rfl, ?_, HB9.out, HS9.out⟩, by simp [intOf]; omega⟩
        rw [HSe.out, HSw.out, HW0.out]
        exact HO9.out
      | false =>
        have hw0 : wv = av := by rw [HWw.out, hq]; rfl
        obtain ⟨y0, y1⟩ := HAl2.out _ HB7.out
        obtain ⟨W8, hW8⟩ : ∃ W8, W8 = w7.alloc (.cells #[.int .i64 av] 2) := ⟨_, rfl⟩
        have hb8 : Below w7.heap.size w7 W8 := by rw [hW8]; exact boxed _ _
        obtain ⟨a5, c5, w9, hr9, ho9, hb9, hs9⟩ := owl_num (w0 := w) (HO7.out.up hb8) (i := 1) (k := j) rfl (by omega) (y := w7.heap.size) (z := av) (by rw [hW8]; exact Has.fresh _ _ _) (up2 HB7.out hb8) HBB.out (Nat.le_trans HS7.out hb8.size) 64
        have HR9 := Lib.hid hr9
        have HO9 := Lib.hid ho9
        have HB9 := Lib.hid hb9
        have HS9 := Lib.hid hs9
        have HW8 := Lib.hid hW8
        have HW0 := Lib.hid hw0
        have HQ := Lib.hid hq
        clear hr9 ho9 hb9 hs9 hb8 hW8 hw0 hq
        go_wp2_with (first | (rw [← HW8.out]; refine wpList_run (o := ⟨some 72, _, _, _, _, _⟩) rfl (.tmp 62) (.tmp 71) 64 rfl _ _ rfl rfl (S := fun u q => u = .slice a5 (j + 1) c5 ∧ q = w9) ⟨_, w9, HR9.out, rfl, rfl⟩ ?_; rintro u q ⟨rfl, rfl⟩) | fail)
        refine ⟨⟨j + 1, by omega, by go_num, by rw [HSn.out, HQ.out]; simp, _, _, _, _, rfl, rfl, ?_, HB9.out, HS9.out⟩, by simp [intOf]; omega⟩
        rw [HSe.out, HSw.out, HW0.out]
        exact HO9.out
    · obtain rfl : j = n := by omega
      cases hq : S.ends day j with
      | true =>
        have hX : S.onwE day more = 1 := by rw [HX0.out, ← HNn.out, hq, if_pos rfl]
        have HX := Lib.hid hX
        clear hX hq
        go_wp2_with fail
        go_ret
        exact ⟨by rw [HXe.out, HX.out]; rfl, by rw [HSe.out, HNo.out _ HX.out (by decide)]; exact CqR.same ⟨_, HH.out⟩ HB.out⟩
      | false =>
        have hX : S.onwE day more = againE V (S.ear day) j (S.wei day) j := by rw [HX0.out, ← HNn.out, hq, if_neg (by simp), HV.out]
        have HX := Lib.hid hX
        have hA1 : Arg wr a1 j (S.ear day) := fun hp => by
          obtain ⟨g, cc, e, _, hI⟩ := vals_ints hp (HO.out.own 0 _ rfl)
          injection e with e
          subst e
          exact ints_arg0 hI hp
        have hA2 : Arg wr a2 j (S.wei day) := fun hp => by
          obtain ⟨g, cc, e, _, hI⟩ := vals_ints hp (HO.out.own 1 _ rfl)
          injection e with e
          subst e
          exact ints_arg0 hI hp
        have HAg := Lib.hid (ragain_any V (S.ear day) (S.wei day) a1 a2 j j c1 c2 wr (HF.out.ear_am day) (HF.out.wei_am day) HVa.out (by omega) hA1 hA2)
        unfold RAgPost RListed at HAg
        obtain ⟨ae, hae⟩ : ∃ ae, ae = againE V (S.ear day) j (S.wei day) j := ⟨_, rfl⟩
        rw [← hae] at HAg HX
        have hav : S.agn day more = againV V (S.ear day) j (S.wei day) j := by unfold Ct.agn; rw [HV.out, HNn.out]
        rw [← hav] at HAg
        clear hq hX hA1 hA2 hae hav
        go_wp2_with fail
        refine HAg.out.mono ?_
        rintro e w4 ⟨hb, ⟨q, rfl⟩ | ⟨q, p, pc, rfl, hp, hI⟩⟩
        · have HB4 := Lib.hid (up2 HB.out hb)
          have q' : (ae != 0) = true := by simpa using q
          have HQ := Lib.hid q
          clear hb q c3
          go_wp2_with fail
          go_ret
          exact ⟨by rw [HXe.out, HX.out]; rfl, by rw [HSe.out, HNo.out _ HX.out HQ.out]; exact CqR.same ⟨_, HH.out⟩ HB4.out⟩
        · have hX : S.onwE day more = 0 := by rw [HX.out, q]
          have HX1 := Lib.hid hX
          have hb4 := up2 HB.out hb
          have hsz := HB.out.size
          have HM4 := Lib.hid (Cmid.start (g := fun t x => ⟨x.d, x.E, onwS x.d x.E x.L day (S.agn day more t)⟩) (HH.out.up hb4) hb4 (by rw [← HNn.out]; exact hI) (fun x hx => by have := HFar.out x hx; constructor <;> omega))
          have q0 : (ae != 0) = false := by simpa using q
          clear hb q hb4 hsz hp hI hX c3
          go_wp2_with fail
          go_loopw [16] (fun i wr => ∃ t : Nat, t ≤ j ∧ i = .int .i64 (t : Int) ∧ Cmid w wr c P S (fun t x => ⟨x.d, x.E, onwS x.d x.E x.L day (S.agn day more t)⟩) (.slice ta P.length tk) p (S.agn day more) t) (fun i _ => j - (intOf i).toNat)
          case atStart => exact ⟨0, Nat.zero_le _, rfl, HM4.out⟩
          case round =>
            obtain ⟨t, ht, rfl, hM⟩ := hrel
            have HM := Lib.hid hM
            clear hM
            by_cases hlt2 : t < j
            · obtain ⟨x, hx⟩ : ∃ x, P[t]? = some x := ⟨P[t]'(by rw [HNl.out]; exact hlt2), List.getElem?_eq_getElem _⟩
              obtain ⟨tb, tof, hta, _⟩ := pt_at HR.out hx
              subst hta
              have htS : t < S.n := by rw [← HNn.out]; exact hlt2
              obtain ⟨vv, hvv⟩ : ∃ vv, vv = S.agn day more t := ⟨_, rfl⟩
              have HCells : Hid (∀ (W : World) (i : Nat), Cmid w W c P S (fun t x => ⟨x.d, x.E, onwS x.d x.E x.L day (S.agn day more t)⟩) (.slice (some ⟨tb, tof, none⟩) P.length tk) p (S.agn day more) i → W.cell? ⟨c, 3, none⟩ = some (.slice (some ⟨tb, tof, none⟩) j tk) ∧ W.cell? ⟨tb, tof + t, none⟩ = some (.pointer (some ⟨x.1, 0, none⟩)) ∧ W.cell? ⟨p, t, none⟩ = some (.int .i64 vv)) := Lib.hid fun W i h => by
                have z := h.cells htS hx rfl
                rw [HNl.out, ← hvv] at z
                exact z
              have HM1 := Lib.hid (HM.out.up (Below.refl _ _).drew)
              have HCall : Hid (Calls Tryz.prog 40 #[.pointer (some ⟨x.1, 0, none⟩), .int .i64 day, .int .i64 vv] wr.drew fun e w' => (∃ X, e = .returned (.int .i64 X)) ∧ Cmid w w' c P S (fun t x => ⟨x.d, x.E, onwS x.d x.E x.L day (S.agn day more t)⟩) (.slice (some ⟨tb, tof, none⟩) P.length tk) p (S.agn day more) (t + 1)) := Lib.hid (by
                obtain ⟨sv, hq⟩ := HM1.out.at htS hx
                have ha := (Ct.agn_bd HX1.out htS).2.1
                rw [← hvv] at ha
                refine (qonward_any hq day vv ha).mono fun e w' z => ⟨⟨_, z.1⟩, HM1.out.step htS hx ?_⟩
                rw [hvv] at z
                exact z.2)
              have i0 : (0 : Int) ≤ (t : Int) := by omega
              have i1 : (t : Int) < (j : Int) := by omega
              have e1 : IntKind.i64.wrap ((t : Int) + 1) = (t : Int) + 1 := IntWalk.i64_in _ (by omega)
              obtain ⟨k3, kz, kv⟩ := HCells.out _ _ HM.out
              clear hx htS hvv
              go_wp2_with fail
              have K0 : Hid (wr.drew.cell? ⟨c, 3, none⟩ = some (.slice (some ⟨tb, tof, none⟩) j tk) ∧ wr.drew.cell? ⟨tb, tof + t, none⟩ = some (.pointer (some ⟨x.1, 0, none⟩)) ∧ wr.drew.cell? ⟨p, t, none⟩ = some (.int .i64 vv)) := Lib.hid ⟨k3, kz, kv⟩
              go_region_held3 (fun w' => w'.cell? ⟨c, 3, none⟩ = some (.slice (some ⟨tb, tof, none⟩) j tk) ∧ w'.cell? ⟨tb, tof + t, none⟩ = some (.pointer (some ⟨x.1, 0, none⟩)) ∧ w'.cell? ⟨p, t, none⟩ = some (.int .i64 vv))
                (first | (go_keep; done) | (with_reducible exact K0.out) | (with_reducible exact kK1.out))
                (first | (go_at_call 40; (with_reducible refine (HCall.out).mono ?_); rintro e w5 ⟨⟨X, rfl⟩, hM5⟩; have kM5 := Lib.hid hM5; have kK1 := Lib.hid (HCells.out _ _ hM5); clear hM5))
              all_goals
                clear k3 kz kv
                go_wp2_with fail
                exact ⟨⟨t + 1, by omega, by go_num, kM5.out⟩, by simp [intOf]; omega⟩
            · obtain rfl : t = j := by omega
              clear hlt2
              have hD := HM.out
              rw [show t = S.n from HNn.out] at hD
              have h0 := hD.has
              have d0 := h0.cell 0
              have d1 := h0.cell 1
              have d2 := h0.cell 2
              have d3 := h0.cell 3
              have f0 := h0.free 0
              have f1 := h0.free 1
              have f2 := h0.free 2
              simp at d0 d1 d2 d3
              have hch := HF.out.ch
              have hF2 := HF.out.onw1 (day := day) (more := more)
              have hS2 : S.onwS day more = ⟨V, day, S.ch + 1, S.T.mapIdx fun t x => ⟨x.d, x.E, onwS x.d x.E x.L day (S.agn day more t)⟩⟩ := by unfold Ct.onwS; rw [if_pos HX1.out, HV.out]
              rw [hS2] at hF2
              have HS2 := Lib.hid hS2
              have HDone := Lib.hid (hD.done hF2)
              rw [HNl.out] at d3
              generalize S.N = N at d0
              generalize S.la = la at d1
              generalize S.ch = ch at d2 HDone HS2 hch
              have e1 : IntKind.i64.wrap ((ch : Int) + 1) = (ch : Int) + 1 := IntWalk.i64_in _ (by omega)
              clear hD h0 hF2 hS2
              go_wp2_with fail
              go_ret
              refine ⟨by rw [HXe.out, HX1.out]; rfl, ?_⟩
              rw [HSe.out, HS2.out]
              exact HDone.out
end
end Go.Proofs.YtklaonoekmhakaaGreat
