/- New, Close, Entry, Total. -/
import Derived.Test.YtginbgclifdfiaaAcX
namespace Go.Proofs.Ytginbgclifdfiaa
open Go.RowKit

section
variable {w w' : World} {p m : Nat} {S : Ld} {f : Int → Int → Int → Int} {ve : Value} {vs : List Value} {rows : List (Int × Int × Nat)} {O : Nat → Prop}
set_option maxRecDepth 100000 in
set_option maxHeartbeats 2000000 in
theorem new_no (n : Int) (q : n < 1 ∨ 240 < n) : Calls Try.prog 9 #[.int .i64 n] w fun e w' => e = .returned (.tuple #[.pointer none, .int .i64 1]) ∧ w = w' := by
  rcases q with q | q
  · go_enter Try.func9, Try.ntmps9
    go_wp2
    go_ret2
    exact ⟨rfl, rfl⟩
  · have q' : ¬ n < 1 := by omega
    go_enter Try.func9, Try.ntmps9
    go_wp2
    go_ret2
    exact ⟨rfl, rfl⟩
/-- blocks of a call's own -/
abbrev Own9 (w w' : World) : Nat → Prop := fun b => w.heap.size ≤ b ∧ b < w'.heap.size
set_option maxRecDepth 100000 in
set_option maxHeartbeats 2000000 in
theorem new_yes (n : Nat) (h0 : 1 ≤ n) (h1 : n ≤ 240) : Calls Try.prog 9 #[.int .i64 (n : Int)] w fun e w' =>
    e = .returned (.tuple #[.pointer (some ⟨w.heap.size + 1, 0, none⟩), .int .i64 0]) ∧ Lg w' (w.heap.size + 1) ⟨n, 0, []⟩ (Own9 w w') ∧ Below w.heap.size w w' := by
  have q1 : ¬ ((n : Int) < 1) := by omega
  have q2 : ¬ (240 < (n : Int)) := by omega
  have hmm := @run_makeMap Try.prog
  have hend : Lg ((w.alloc (.map #[] 0)).alloc (.cells #[.int .i64 (n : Int), .int .i64 0, .slice none 0 0, .map (some w.heap.size)] 63)) (w.heap.size + 1) ⟨n, 0, []⟩ (Own9 w ((w.alloc (.map #[] 0)).alloc (.cells #[.int .i64 (n : Int), .int .i64 0, .slice none 0 0, .map (some w.heap.size)] 63))) := by
    refine ⟨w.heap.size, .slice none 0 0, [], [], ⟨?_, World.ownsRow_nil _ _ _ _, rfl, by simp, ⟨(Mp.fresh w).up (boxed _ _), by simp, List.nodup_nil, fun _ _ _ _ _ _ => rfl⟩, fine_new n h0 h1⟩, ⟨⟨by omega, by simp⟩, ⟨Nat.le_refl _, by simp; omega⟩, (fun g hg => by cases hg), by simp, by simp⟩, fun b hb => hb.2⟩
    have := Has.fresh (w.alloc (.map #[] 0)) 63 #[.int .i64 (n : Int), .int .i64 0, .slice none 0 0, .map (some w.heap.size)]
    simpa using this
  have HE := Lib.hid hend
  clear hend
  go_enter Try.func9, Try.ntmps9
  go_wp2_with fail
  go_ret2
  exact ⟨rfl, HE.out, (boxed _ _).alloc (by simp) _⟩

def CloR (w : World) (p : Nat) (S : Ld) (O : Nat → Prop) (q : Int) (e : Ending) (w' : World) : Prop := e = .returned (.int .i64 (cloE S q)) ∧ LgR w p O (cloS S q) w'
set_option maxRecDepth 100000 in
set_option maxHeartbeats 2000000 in
theorem close_any (q : Int) (h : Lg w p S O) : Calls Try.prog 28 #[.pointer (some ⟨p, 0, none⟩), .int .i64 q] w (CloR w p S O q) := by
  have HL := Lib.hid h
  have hF := h.fine
  obtain ⟨m, ve, vs, rows, h, hin, _⟩ := h
  obtain ⟨c0, c1, c2, c3⟩ := h.lc
  have HHas := Lib.hid (has_cells (w := w) (p := p) (S := S) q c0)
  have hn := hF.n1
  have hop := hF.op
  unfold CloR cloS
  by_cases h1 : q = S.op
  · by_cases h2 : S.op < S.n
    · have hE : cloE S q = 0 := by unfold cloE; rw [if_pos ⟨h1, h2⟩]
      rw [hE, if_pos rfl]
      rw [show hasB S q = true by unfold hasB; simp; omega] at HHas
      have hb : (q != (S.op : Int)) = false := by rw [h1]; simp
      have e1 : IntKind.i64.wrap ((S.op : Int) + 1) = (S.op : Int) + 1 := IntWalk.i64_in _ (by omega)
      have f1 := h.head.free 1
      have hend : LgR w p O { S with op := S.op + 1 } (w.setCell ⟨p, 1, none⟩ (.int .i64 ((S.op : Int) + 1))) := by
        refine LgR.of HL.out (m := m) (ve := ve) (vs := vs) (rows := rows) ⟨?_, own_keep h.ents fun g hg => setCell_heap _ _ _ _ (own_type h.ents h.head (by decide) g hg), h.lens, fun i e v he hv => ?_, h.tbl.keep (setCell_heap _ _ _ _ (fun e => has_map h.head h.tbl.map e.symm)) fun y hy => setCell_heap _ _ _ _ ((h.tbl.row y hy).ne h.head (by decide)), ⟨hF.n0, hF.n1, by show S.op + 1 ≤ S.n; omega, hF.few, hF.ok, hF.mov, hF.bal⟩⟩ (hin.mono fun b hb => .inl hb) (Kp.set _ _ _ hin.p)
        · exact h.head.put 1 (.int .i64 ((S.op : Int) + 1))
        · have := h.each i e v he hv
          exact own_keep this fun g hg => setCell_heap _ _ _ _ (own_type this h.head (by decide) g hg)
      have HE := Lib.hid hend
      clear h h1 h2 hE c2 c3 hF hin hend c0
      go_enter Try.func28, Try.ntmps28
      go_wp2_with fail
      refine HHas.out.mono ?_
      rintro e w1 ⟨rfl, rfl⟩
      go_wp2_with fail
      go_ret
      exact ⟨rfl, HE.out⟩
    · have hE : cloE S q = 1 := by unfold cloE; rw [if_neg (fun z => h2 z.2)]
      rw [hE, if_neg (by omega)]
      rw [show hasB S q = false by unfold hasB; simp; omega] at HHas
      have hb : (q != (S.op : Int)) = false := by rw [h1]; simp
      clear h h1 h2 hE c2 c3 hF hin c0
      go_enter Try.func28, Try.ntmps28
      go_wp2_with fail
      refine HHas.out.mono ?_
      rintro e w1 ⟨rfl, rfl⟩
      go_wp2_with fail
      go_ret
      exact ⟨rfl, LgR.same HL.out (Below.refl _ _)⟩
  · have hE : cloE S q = 1 := by unfold cloE; rw [if_neg (fun z => h1 z.1)]
    rw [hE, if_neg (by omega)]
    have hb : (q != (S.op : Int)) = true := by simpa using h1
    clear h h1 hE c2 c3 hF hin c0 HHas
    go_enter Try.func28, Try.ntmps28
    go_wp2_with fail
    go_ret
    exact ⟨rfl, LgR.same HL.out (Below.refl _ _)⟩

/-- Entry -/
def EntR (w : World) (S : Ld) (i : Int) (e : Ending) (w' : World) : Prop :=
  ((entB S i = false ∧ e = .returned (.tuple #[.int .i64 0, .slice none 0 0, .int .i64 5])) ∨ ∃ x v, entB S i = true ∧ S.L[i.toNat]? = some x ∧ e = .returned (.tuple #[.int .i64 x.per, v, .int .i64 0]) ∧ w'.ownsRow w.heap.size 48 3 v x.ps.length (flat x.ps)) ∧ Below w.heap.size w w'
set_option maxRecDepth 100000 in
set_option maxHeartbeats 4000000 in
theorem entry_any (i : Int) (h : Lg w p S O) : Calls Try.prog 23 #[.pointer (some ⟨p, 0, none⟩), .int .i64 i] w (EntR w S i) := by
  have hF := h.fine
  obtain ⟨m, ve, vs, rows, h, _⟩ := h
  cases hi : entB S i
  · obtain ⟨av, capv, rfl⟩ := own_form9 h.ents
    have HHas := Lib.hid (hasEntry_cells (w := w) (p := p) (S := S) i h.lc.2.2.1)
    rw [hi] at HHas
    have HI := Lib.hid hi
    clear h hi hF
    go_enter Try.func23, Try.ntmps23
    go_wp2_with fail
    refine HHas.out.mono ?_
    rintro e w1 ⟨rfl, rfl⟩
    go_wp2_with fail
    exact bodyPost_ret (v := .tuple #[.int .i64 0, .slice none 0 0, .int .i64 5]) (by simp [results, Try.results23, go_sem]) rfl ⟨.inl ⟨HI.out, rfl⟩, Below.refl _ _⟩
  · have h2 : 0 ≤ i ∧ i < S.L.length := by unfold entB at hi; simp at hi; exact hi
    obtain ⟨k, rfl⟩ : ∃ k : Nat, i = k := ⟨i.toNat, by omega⟩
    have hx : S.L[k]? = some (S.L[k]'(by omega)) := List.getElem?_eq_getElem _
    generalize S.L[k]'(by omega) = x at hx
    have hok := hF.ok x (List.mem_of_getElem? hx)
    have hwell := well_iff.1 hok.well
    obtain ⟨g, c, v, rfl, k1, k2, k3, kf, hv, hh, _⟩ := h.at hx
    obtain ⟨av, cv, rfl, hpa, _, hnone⟩ := own_psa hv
    obtain ⟨ad, rfl⟩ : ∃ ad, av = some ad := by
      cases av with
      | none => have := (hnone rfl).1; omega
      | some ad => exact ⟨ad, rfl⟩
    have c2 := h.lc.2.2.1
    have HHas := Lib.hid (hasEntry_cells (w := w) (p := p) (S := S) (k : Int) c2)
    rw [hi] at HHas
    obtain ⟨W1, hW1⟩ : ∃ W1, W1 = w.alloc (.cells #[.int .i64 x.per, .slice (some ad) x.ps.length cv, .bool x.tu] 77) := ⟨_, rfl⟩
    have hb1 : Below w.heap.size w W1 := by rw [hW1]; exact boxed _ _
    have hX : Has W1 w.heap.size 77 #[.int .i64 x.per, .slice (some ad) x.ps.length cv, .bool x.tu] := by rw [hW1]; exact Has.fresh _ _ _
    have x0 : W1.cell? ⟨w.heap.size, 0, none⟩ = some (.int .i64 x.per) := hX.cell 0
    have x1 : W1.cell? ⟨w.heap.size, 1, none⟩ = some (.slice (some ad) x.ps.length cv) := hX.cell 1
    have hxl : w.heap.size < W1.heap.size := hX.lt
    have HCl : Hid (Calls Try.prog 38 #[.slice (some ad) x.ps.length cv] W1.drew fun e w' => ∃ v, e = .returned v ∧ (w'.cell? ⟨w.heap.size, 0, none⟩ = some (.int .i64 x.per) ∧ w'.cell? ⟨w.heap.size, 1, none⟩ = some (.slice (some ad) x.ps.length cv)) ∧ w'.ownsRow w.heap.size 48 3 v x.ps.length (flat x.ps) ∧ Below w.heap.size w w') := by
      refine (clone_any ad x.ps.length cv x.ps ((hpa.up hb1).drew) rfl (by omega) (by omega)).mono ?_
      rintro e w5 ⟨v, rfl, h1, h2⟩
      have hb : Below W1.heap.size W1 w5 := (Below.refl _ _).drew.trans h2
      refine ⟨v, rfl, ⟨kcell hb x0, kcell hb x1⟩, ⟨h1.1, ?_⟩, up2 hb1 hb⟩
      rcases h1.2 with h3 | ⟨g, cap, cur, e5, h6, h7⟩
      · exact .inl h3
      · exact .inr ⟨g, cap, cur, e5, Nat.le_trans (Nat.le_of_lt hxl) h6, h7⟩
    have HW1 := Lib.hid hW1
    have HI := Lib.hid hi
    have HX := Lib.hid hx
    have i1 : (0 : Int) ≤ (k : Int) := by omega
    have i2 : (k : Int) < (S.L.length : Int) := by omega
    have i3 : ((k : Int)).toNat = k := by omega
    clear h hx hi hF hok hwell kf hv hh hpa hnone hb1 hX hW1 h2
    go_enter Try.func23, Try.ntmps23
    go_wp2_with fail
    refine HHas.out.mono ?_
    rintro e w1 ⟨rfl, rfl⟩
    go_wp2_with fail
    rw [← HW1.out]
    clear k1 k2 k3 c2
    go_region_held3 (fun w' => w'.cell? ⟨w.heap.size, 0, none⟩ = some (.int .i64 x.per) ∧ w'.cell? ⟨w.heap.size, 1, none⟩ = some (.slice (some ad) x.ps.length cv))
      (first | (go_keep; done) | exact g1)
      (first | (go_at_call 38; ((with_reducible refine HCl.out.mono ?_); rintro e w5 ⟨v5, rfl, g1, g2, g3⟩; have G2 := Lib.hid g2; have G3 := Lib.hid g3; clear g2 g3)))
    all_goals
      clear x0 x1
      go_wp2_with fail
      exact bodyPost_ret (v := .tuple #[.int .i64 x.per, v5, .int .i64 0]) (by simp [results, Try.results23, go_sem]) rfl ⟨.inr ⟨x, v5, HI.out, HX.out, rfl, G2.out⟩, G3.out⟩

def TotR (w : World) (S : Ld) (a q : Int) (e : Ending) (w' : World) : Prop := e = .returned (.tuple #[.int .i64 (totV S a q), .int .i64 (totE S a q)]) ∧ Below w.heap.size w w'
set_option maxRecDepth 100000 in
set_option maxHeartbeats 4000000 in
theorem total_any (a q : Int) (h : Lg w p S O) (ha : Am a) : Calls Try.prog 17 #[.pointer (some ⟨p, 0, none⟩), .int .i64 a, .int .i64 q] w (TotR w S a q) := by
  have HL := Lib.hid h
  have HKn := Lib.hid (known_any a 0 w)
  have hz : Am 0 := am0
  have HHas : Hid (∀ W, Below w.heap.size w W → Calls Try.prog 35 #[.pointer (some ⟨p, 0, none⟩), .int .i64 q] W fun e w' => e = .returned (.bool (hasB S q)) ∧ W = w') := fun W hb => by
    obtain ⟨m, ve, vs, rows, h, _⟩ := h.up hb
    exact has_cells q h.lc.1
  unfold TotR
  unfold plV at HKn
  cases hk : knB a 0
  · rw [hk] at HKn
    have hE : totE S a q = 1 := by
      unfold totE
      rw [if_pos]
      have : ¬ (0 ≤ a ∧ a ≤ 3 ∧ (0 : Int) ≤ 0 ∧ (0 : Int) < 40) := fun z => by rw [knB_iff.2 z] at hk; cases hk
      omega
    rw [hE, show totV S a q = 0 by unfold totV; rw [hE]; rfl]
    clear h hk hE
    go_enter Try.func17, Try.ntmps17
    go_wp2_with fail
    refine HKn.out.mono ?_
    rintro e w1 ⟨rfl, hb⟩
    have HB := Lib.hid hb
    clear hb
    go_wp2_with fail
    go_ret2
    exact ⟨rfl, HB.out⟩
  · rw [hk] at HKn
    cases hh : hasB S q
    · rw [hh] at HHas
      have hE : totE S a q = 1 := by
        unfold totE
        rw [if_pos]
        unfold hasB at hh
        simp at hh
        omega
      rw [hE, show totV S a q = 0 by unfold totV; rw [hE]; rfl]
      clear h hk hh hE
      go_enter Try.func17, Try.ntmps17
      go_wp2_with fail
      refine HKn.out.mono ?_
      rintro e w1 ⟨rfl, hb⟩
      have HB := Lib.hid hb
      clear hb
      go_wp2_with fail
      refine (HHas.out w1 HB.out).mono ?_
      rintro e w2 ⟨rfl, rfl⟩
      go_wp2_with fail
      go_ret2
      exact ⟨rfl, HB.out⟩
    · rw [hh] at HHas
      have hq : 0 ≤ q ∧ q < S.n := by unfold hasB at hh; simpa using hh
      obtain ⟨k, rfl⟩ : ∃ k : Nat, q = k := ⟨q.toNat, by omega⟩
      have hka := knB_iff.1 hk
      have hE : totE S a k = if amB (totX S a k) = true then 0 else 3 := by
        unfold totE
        rw [if_neg (by omega)]
      have hte : tellE (totX S a k) = totE S a k := by
        rw [hE]
        cases h1 : amB (totX S a k)
        · rw [(tell_no h1).2]; rfl
        · rw [(tell_am (amB_iff.1 h1)).2]; rfl
      have htv : tellV (totX S a k) = totV S a k := by
        unfold totV
        rw [hE]
        cases h1 : amB (totX S a k)
        · rw [(tell_no h1).1]; rfl
        · rw [(tell_am (amB_iff.1 h1)).1]; rfl
      have hF := h.fine
      have HBal : Hid (∀ (W : World) (c : Nat), c < 40 → Below w.heap.size w W → Calls Try.prog 21 #[.pointer (some ⟨p, 0, none⟩), .int .i64 a, .int .i64 (c : Int), .int .i64 (k : Int)] W fun e w' => e = .returned (.int .i64 (rng a c 0 k S.L)) ∧ Below W.heap.size W w') := fun W c hc hb => by
        have := balance_any a c k (h.up hb) ha (by unfold Am; omega)
        rwa [show balV S a c k = rng a c 0 k S.L by unfold balV; rw [if_neg (by omega)]] at this
      have HAm : Hid (∀ c : Int, Am (rng a c 0 k S.L)) := fun c => hF.bal a c k hq.1 hq.2
      have hmk : ∀ W : World, (Instr.makeSlice 55 (.int .i64 40) (.int .i64 40)).run Try.prog W = .ok (.slice (some ⟨W.heap.size, 0, none⟩) 40 40) (W.alloc (.cells (rowI 40 fun _ => 0) 2)) := fun W => by
        rw [← rowI_zero]
        exact run_make_row' 55 2 _ 8 Try.underlying55 info64 rfl .i64 .i64 40 (by omega) (by omega) W
      have HTe := Lib.hid hte
      have HTv := Lib.hid htv
      clear h hk hh hka hE hte htv hF hq
      go_enter Try.func17, Try.ntmps17
      go_wp2_with fail
      refine HKn.out.mono ?_
      rintro e w1 ⟨rfl, hb⟩
      have HB := Lib.hid hb
      clear hb
      go_wp2_with fail
      refine (HHas.out w1 HB.out).mono ?_
      rintro e w2 ⟨rfl, rfl⟩
      go_wp2_with fail
      go_loopw [9, 23] (fun _ i wr => ∃ j : Nat, j ≤ 40 ∧ i = .int .i64 (j : Int) ∧ Has wr w1.heap.size 2 (rowI 40 fun c => if c < (j : Int) then rng a c 0 k S.L else 0) ∧ Below w1.heap.size w1 wr) (fun _ i _ => 40 - (intOf i).toNat)
      case atStart =>
        refine ⟨0, by omega, rfl, ?_, boxed _ _⟩
        have := Has.fresh w1 2 (rowI 40 fun _ => 0)
        have e : rowI 40 (fun c => if c < ((0 : Nat) : Int) then rng a c 0 k S.L else 0) = rowI 40 (fun _ => 0) := by
          unfold rowI
          refine congrArg List.toArray (List.map_congr_left fun i _ => ?_)
          show Value.int .i64 (if ((i : Nat) : Int) < ((0 : Nat) : Int) then rng a (i : Int) 0 k S.L else 0) = .int .i64 0
          rw [if_neg (by omega)]
        rw [e]; exact this
      case round =>
        obtain ⟨j, hj, rfl, h1, h2⟩ := hrel
        have H1 := Lib.hid h1
        have H2 := Lib.hid h2
        clear h1 h2 hmk
        by_cases hlt : j < 40
        · have i1 : (0 : Int) ≤ (j : Int) := by omega
          have i2 : (j : Int) < 40 := by omega
          have i3 : ((j : Int)).toNat = j := by omega
          go_wp2_with fail
          refine (HBal.out wr j hlt (up2 HB.out H2.out)).mono ?_
          rintro e w3 ⟨rfl, hb3⟩
          have h3 := H1.out.up hb3
          have hc3 : w3.cell? ⟨w1.heap.size, j, none⟩ = some (.int .i64 0) := by
            have := h3.cell j
            rw [rowI_get _ hlt, if_neg (by omega)] at this
            exact this
          have hf3 := h3.free j
          have hput := h3.put j (.int .i64 (rng a j 0 k S.L))
          have e : (rowI 40 fun c => if c < (j : Int) then rng a c 0 k S.L else 0).setIfInBounds j (.int .i64 (rng a j 0 k S.L)) = rowI 40 fun c => if c < ((j + 1 : Nat) : Int) then rng a c 0 k S.L else 0 := by
            apply Array.ext
            · simp [rowI_size]
            · intro i h1 h2
              rw [rowI_size] at h2
              have e1 := rowI_get (fun c => if c < ((j + 1 : Nat) : Int) then rng a c 0 k S.L else 0) h2
              have e2 := rowI_get (fun c => if c < (j : Int) then rng a c 0 k S.L else 0) h2
              rw [Array.getElem?_eq_getElem (by rw [rowI_size]; exact h2)] at e1 e2
              rw [Array.getElem_setIfInBounds (by rw [rowI_size]; exact h2)]
              injection e1 with e1; injection e2 with e2
              rw [e1]
              by_cases q : j = i
              · subst q; rw [if_pos rfl, if_pos (by omega)]
              · rw [if_neg q, e2]
                by_cases q2 : (i : Int) < (j : Int)
                · rw [if_pos q2, if_pos (by omega)]
                · rw [if_neg q2, if_neg (by omega)]
          rw [e] at hput
          have HPut := Lib.hid hput
          have HB3 := Lib.hid (up2 H2.out hb3)
          clear h3 hput e hb3
          go_wp2_with fail
          go_roundw
          case rel => exact ⟨j + 1, by omega, by go_num, HPut.out, HB3.out.setCell (Nat.le_refl _) _⟩
          case measure => simp [intOf]; omega
        · obtain rfl : j = 40 := by omega
          have hs := sum_row9 H1.out (fun c _ _ => by
            show Am (if c < ((40 : Nat) : Int) then rng a c 0 k S.L else 0)
            by_cases q : c < ((40 : Nat) : Int)
            · rw [if_pos q]; exact HAm.out c
            · rw [if_neg q]; exact am0) (by omega) 40 40 (by omega)
          rw [sumTo_congr (g := fun c => rng a c 0 k S.L) 40 (fun i hi => by rw [if_pos (by omega)])] at hs
          have hs' : Calls Try.prog 25 #[.slice (some ⟨w1.heap.size, 0, none⟩) 40 40] wr fun e w' => e = .returned (.tuple #[.int .i64 (totV S a k), .int .i64 (totE S a k)]) ∧ Below wr.heap.size wr w' := by
            rw [← HTe.out, ← HTv.out]; exact hs
          have HS := Lib.hid hs'
          clear hs hs'
          go_wp2_with fail
          refine HS.out.mono ?_
          rintro e w4 ⟨rfl, hb4⟩
          have HB4 := Lib.hid hb4
          clear hb4
          go_wp2_with fail
          go_ret2
          exact ⟨rfl, up2 (up2 HB.out H2.out) HB4.out⟩
end
end Go.Proofs.Ytginbgclifdfiaa
