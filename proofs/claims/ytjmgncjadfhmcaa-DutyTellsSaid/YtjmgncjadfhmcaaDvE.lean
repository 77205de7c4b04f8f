/- The reference's: sums in boxes, rows of places with zeros behind; what a store leaves of exact numbers. -/
import Derived.Test.YtjmgncjadfhmcaaDvC
import Derived.Test.YtjmgncjadfhmcaaZ
import Derived.Test.YtjmgncjadfhmcaaBqD
namespace Go.Proofs.Ytjmgncjadfhmcaa
open Go.RowKit

/-- digits lie in blocks of integers: a store into a block of another type leaves them -/
theorem Dg.off {W : World} {a : Option Addr} {cap : Nat} {l : List Int} (h : Dg W a cap l) {N T : Nat} {cs : Array Value} (hN : Has W N T cs) (hT : T ≠ 3) (k : Nat) (u : Value) : Dg (W.setCell ⟨N, k, none⟩ u) a cap l := by
  rcases h with h | ⟨g, h1, h2, ⟨cur, fr, h4⟩, h3⟩
  · exact .inl h
  · have hne : g ≠ N := by
      intro e; subst e
      unfold Has at hN
      rw [hN] at h4
      injection h4 with h4
      injection h4 with _ e
      exact hT e
    refine .inr ⟨g, h1, h2, ⟨cur, fr, ?_⟩, fun i hi => cset (h3 i hi) (.inl hne)⟩
    rw [Below.heap_setCell W ⟨N, k, none⟩ u g hne]; exact h4
theorem Ex.off {W : World} {s : Int} {a : Option Addr} {len cap : Nat} {n : Int} (h : Ex W s a len cap n) {N T : Nat} {cs : Array Value} (hN : Has W N T cs) (hT : T ≠ 3) (k : Nat) (u : Value) : Ex (W.setCell ⟨N, k, none⟩ u) s a len cap n := by
  obtain ⟨h1, l, h2, h3, h4⟩ := h
  exact ⟨h1, l, h2, h3.off hN hT k u, h4⟩
/-- a sum in a box -/
structure SmX (W : World) (b : Nat) (v s : Int) (a : Option Addr) (len cap : Nat) : Prop where
  has : Has W b 63 #[.int .i64 s, .slice a len cap]
  ex : Ex W s a len cap v
section
variable {W W' : World} {b : Nat} {v s : Int} {a : Option Addr} {len cap : Nat}
theorem SmX.up (h : SmX W b v s a len cap) (q : Below W.heap.size W W') : SmX W' b v s a len cap := ⟨h.has.up q, h.ex.below q⟩
theorem SmX.drew (h : SmX W b v s a len cap) : SmX W.drew b v s a len cap := h.up (Below.refl _ _).drew
theorem SmX.start (w : World) : SmX (w.alloc (.cells #[.int .i64 0, .slice none 0 0] 63)) w.heap.size 0 0 none 0 0 := ⟨Has.fresh _ _ _, ex_zero rfl 0⟩
theorem SmX.row (h : SmX W b v s a len cap) : Row2 W b (.int .i64 s) (.slice a len cap) := ⟨h.has.cell 0, h.has.cell 1, h.has.free 0, h.has.free 1⟩
theorem SmX.put (h : SmX W b v s a len cap) {t m : Int} {a2 : Option Addr} {len2 cap2 : Nat} (hE : Ex W t a2 len2 cap2 m) : SmX ((W.setCell ⟨b, 0, none⟩ (.int .i64 t)).setCell ⟨b, 1, none⟩ (.slice a2 len2 cap2)) b m t a2 len2 cap2 := by
  have h1 := h.has.put 0 (.int .i64 t)
  exact ⟨h1.put 1 _, (hE.off h.has (by decide) 0 _).off h1 (by decide) 1 _⟩
/-- a store into another box of another type, or of exact numbers -/
theorem SmX.off (h : SmX W b v s a len cap) {N T : Nat} {cs : Array Value} (hN : Has W N T cs) (hT : T ≠ 3) (hne : b ≠ N) (k : Nat) (u : Value) : SmX (W.setCell ⟨N, k, none⟩ u) b v s a len cap :=
  ⟨h.has.off (p := ⟨N, k, none⟩) hne u, h.ex.off hN hT k u⟩
end
theorem zeroCells_one (z : Value) (n : Nat) : (Builtin.zeroCells #[z] n).toList = List.replicate n z := by
  apply List.ext_getElem?
  intro j
  by_cases hj : j < n
  · simp [Builtin.zeroCells, hj, Nat.mod_one]
  · simp [Builtin.zeroCells, hj]
/-- a row of places of a call's own, zeros behind it -/
def ZRow (W : World) (B : Nat) (v : Value) (ks : List Nat) : Prop :=
  (v = .slice none 0 0 ∧ ks = []) ∨ ∃ g cap, v = .slice (some ⟨g, 0, none⟩) ks.length cap ∧ B ≤ g ∧ ks.length ≤ cap ∧ cap ≤ maxLen ∧ ∃ cs, Has W g 3 cs ∧ cs.toList = ks.map natV ++ List.replicate (cap - ks.length) (.int .i64 0)
/-- what is left of exact numbers -/
def ExK (W W' : World) : Prop := ∀ s a len cap n, Ex W s a len cap n → Ex W' s a len cap n
section
variable {W W' : World} {B : Nat} {v : Value} {ks : List Nat}
theorem ZRow.up (h : ZRow W B v ks) (q : Below W.heap.size W W') : ZRow W' B v ks := by
  rcases h with h | ⟨g, cap, h1, h2, h3, h4, cs, h5, h6⟩
  · exact .inl h
  · exact .inr ⟨g, cap, h1, h2, h3, h4, cs, h5.up q, h6⟩
theorem ZRow.off (h : ZRow W B v ks) {N T : Nat} {cs : Array Value} (hN : Has W N T cs) (hT : T ≠ 3) (k : Nat) (u : Value) : ZRow (W.setCell ⟨N, k, none⟩ u) B v ks := by
  rcases h with h | ⟨g, cap, h1, h2, h3, h4, cs', h5, h6⟩
  · exact .inl h
  · exact .inr ⟨g, cap, h1, h2, h3, h4, cs', h5.off (p := ⟨N, k, none⟩) (h5.ne hN hT.symm) u, h6⟩
theorem ZRow.form (h : ZRow W B v ks) : ∃ a c, v = .slice a ks.length c ∧ NsA W a ks := by
  rcases h with ⟨h1, h2⟩ | ⟨g, cap, h1, h2, h3, h4, cs, h5, h6⟩
  · exact ⟨none, 0, by rw [h1, h2]; rfl, .inl h2⟩
  · refine ⟨_, cap, h1, .inr ⟨g, 0, rfl, fun i x hx j u hu => ?_⟩⟩
    match j, hu with
    | 0, hu =>
      simp [natC] at hu
      rw [h5.cell, show 0 + i * 1 + 0 = i by omega, ← Array.getElem?_toList, h6, List.getElem?_append_left (by rw [List.length_map]; exact (List.getElem?_eq_some_iff.1 hx).1), List.getElem?_map, hx, ← hu]; rfl
theorem dg_len {l : List Int} (ht : Top l) {n : Nat} (h0 : ∀ i, n ≤ i → i < l.length → dg l i = 0) : l.length ≤ n := by
  rcases ht with rfl | h
  · simp
  · by_cases q : l.length ≤ n
    · exact q
    · exact absurd (h0 (l.length - 1) (by omega) (by omega)) h
set_option maxRecDepth 100000 in
theorem ZRow.app (h : ZRow W B v ks) (hk : ks.length ≤ 1000) (hB : B ≤ W.heap.size) {k y : Nat} (hy : Has W y 3 #[.int .i64 (k : Int)]) {ty : TypeId} :
    ∃ v' w', (Builtin.append_ #[40, 40] ty #[v, .slice (some ⟨y, 0, none⟩) 1 1]).run Try.prog W = .ok v' w' ∧ ZRow w' B v' (ks ++ [k]) ∧ W.grownBy w' v.ownBlock ∧ ExK W w' := by
  obtain ⟨i, hi, hz, hs, hby⟩ := info_parts infoIntd
  have hnews : ∀ j u, [Value.int .i64 (k : Int)][j]? = some u → W.cell? ((⟨y, 0, none⟩ : Addr).add j) = some u := fun j u hu => by
    rw [addr_off, Nat.zero_add, hy.cell]
    exact (List.getElem?_toArray (xs := [Value.int .i64 (k : Int)]) (i := j)).trans hu
  have hzc : (Value.int .i64 0).cells = #[.int .i64 0] := rfl
  have hgrew : ∀ (cs : Array Value), Below W.heap.size W (W.drew.alloc (.cells cs 3)) := fun cs => (Below.refl W.heap.size W).drew.alloc (Nat.le_refl _) _
  rcases h with ⟨rfl, rfl⟩ | ⟨g, cap, rfl, h2, h3, h4, cs, h5, h6⟩
  · have hr := run_append_nil (P := Try.prog) W 40 ty 3 i _ Try.underlying40 hi hz ⟨y, 0, none⟩ 1 1 [.int .i64 (k : Int)] (by rw [hs]; rfl) hnews (by decide) (by decide) (by rw [hby]; decide)
    have hge := grownCap_ge W 1 0 3
    refine ⟨_, _, hr, .inr ⟨_, _, rfl, hB, hge, grownCap_le_maxLen W 1 0 _ (by unfold maxLen; omega), _, heap_alloc_new W.drew _, ?_⟩, grown_of (hgrew _) _, fun s a len cap n hE => hE.below (hgrew _)⟩
    rw [Array.toList_append, hzc, zeroCells_one]; rfl
  · by_cases hroom : ks.length + 1 ≤ cap
    · have hcs : cs.size = cap := by
        have := congrArg List.length h6
        rw [List.length_append, List.length_map, List.length_replicate, Array.length_toList] at this
        omega
      have hr := run_append_room (P := Try.prog) W 40 ty 3 i Try.underlying40 hi g ks.length cap cs h5 ⟨y, 0, none⟩ 1 1 [.int .i64 (k : Int)] (by rw [hs]; rfl) hnews (fun u hu => by simp at hu; rw [hu]; rfl) hroom (by rw [hs, hcs]; simp only [List.length_singleton]; omega)
      obtain ⟨C, hC⟩ : ∃ C, C = (cs.toList.take (ks.length * i.size) ++ [Value.int .i64 (k : Int)] ++ cs.toList.drop (ks.length * i.size + [Value.int .i64 (k : Int)].length)).toArray := ⟨_, rfl⟩
      have hCl : C.toList = ks.map natV ++ [Value.int .i64 (k : Int)] ++ List.replicate (cap - ks.length - 1) (Value.int .i64 0) := by
        rw [hC, hs, Nat.mul_one, h6, List.length_singleton]
        rw [List.take_left' (by rw [List.length_map]), List.drop_append, List.length_map, List.drop_of_length_le (by rw [List.length_map]; omega), List.nil_append, List.drop_replicate]
        simp only [List.append_assoc]
        congr 3
        omega
      rw [← hC] at hr
      have hset := setRow_heap W g cs C 3 (0, 0) h5
      have hoth : ∀ j, j ≠ g → (W.setRow g C).heap[j]? = W.heap[j]? := fun j hj => setRow_other W g j C hj
      refine ⟨_, _, hr, .inr ⟨g, cap, by rw [List.length_append]; rfl, h2, by rw [List.length_append]; exact hroom, h4, C, hset, ?_⟩, ⟨rfl, rfl, rfl, by simp, fun j _ hj => hoth j (fun e => hj (by rw [e]; rfl))⟩, ?_⟩
      · rw [hCl, List.map_append, List.length_append, List.length_singleton]
        congr 1
      · rintro s a len cap' n ⟨e1, l, e2, e3, e4, e5, e6⟩
        refine ⟨e1, l, e2, ?_, e4, e5, e6⟩
        rcases e3 with e3 | ⟨g', d1, d2, ⟨cur, fr, d3⟩, d4⟩
        · exact .inl e3
        · by_cases q : g' = g
          · subst q
            have hle : l.length ≤ ks.length := dg_len e5 fun j hj hjl => by
              have := d4 j hjl
              rw [Has.cell h5, ← Array.getElem?_toList, h6, List.getElem?_append_right (by rw [List.length_map]; exact hj), List.getElem?_replicate] at this
              split at this
              · have := Option.some.inj this
                injection this with _ this
                exact this.symm
              · cases this
            refine .inr ⟨g', d1, d2, ⟨C, _, hset⟩, fun j hj => ?_⟩
            have h7 := d4 j hj
            rw [Has.cell h5, ← Array.getElem?_toList, h6, List.getElem?_append_left (by rw [List.length_map]; omega)] at h7
            rw [Has.cell hset, ← Array.getElem?_toList, hCl, List.append_assoc, List.getElem?_append_left (by rw [List.length_map]; omega)]
            exact h7
          · refine .inr ⟨g', d1, d2, ⟨cur, fr, by rw [hoth g' q]; exact d3⟩, fun j hj => ?_⟩
            rw [World.cell?_of_block (hoth g' q)]; exact d4 j hj
    · have hr := run_append_grow (P := Try.prog) W 40 ty 3 i _ Try.underlying40 hi hz ⟨g, 0, none⟩ ks.length cap (ks.map natV) (by rw [hs]; simp) (fun j u hu => by
        rw [addr_off, Nat.zero_add, Has.cell h5, ← Array.getElem?_toList, h6, List.getElem?_append_left (List.getElem?_eq_some_iff.1 hu).1]; exact hu) ⟨y, 0, none⟩ 1 1 [.int .i64 (k : Int)] (by rw [hs]; rfl) hnews (by omega) (by omega) (growslice_fits (by omega) (by rw [hby]; omega))
      have hge := grownCap_ge W (ks.length + 1) cap 3
      refine ⟨_, _, hr, .inr ⟨_, _, by rw [List.length_append]; rfl, hB, by rw [List.length_append]; exact hge, grownCap_le_maxLen W (ks.length + 1) cap _ (by unfold maxLen; omega), _, heap_alloc_new W.drew _, ?_⟩, grown_of (hgrew _) _, fun s a len cap n hE => hE.below (hgrew _)⟩
      rw [Array.toList_append, Array.toList_append, hzc, zeroCells_one, List.map_append, List.length_append]; rfl
end
end Go.Proofs.Ytjmgncjadfhmcaa

namespace Go.Proofs.Ytjmgncjadfhmcaa
open Go.RowKit

set_option maxRecDepth 100000 in
set_option maxHeartbeats 2000000 in
theorem qcharge_any (a : Option Addr) (cap : Nat) (l : List Ln) (w : World) (hl : LnA w a l) (hn : l.length ≤ 1000) (hAm : ∀ x ∈ l, Am x.ch) : Calls Try.prog 10 #[.slice a l.length cap] w (ChR w l) := by
  have hf : Amounts (chF l) := fun k => lnAt_mem (P := fun x => Am x.ch) hAm (am_small (by decide) (by decide)) k
  have HF := Lib.hid hf
  have HL := Lib.hid hl
  obtain ⟨n, hnn⟩ : ∃ n, n = l.length := ⟨_, rfl⟩
  have HN := Lib.hid hnn
  unfold ChR
  rw [← hnn] at hn ⊢
  have HT := Lib.hid (SmX.start w)
  clear hf hl hAm hnn
  go_enter Try.func10, Try.ntmps10
  go_wp2_with fail
  obtain ⟨W0, hW0⟩ : ∃ W0, W0 = w.alloc (.cells #[.int .i64 0, .slice none 0 0] 63) := ⟨_, rfl⟩
  have HB0 : Hid (Below w.heap.size w W0) := by rw [hW0]; exact boxed _ _
  rw [← hW0] at HT
  rw [← hW0]
  clear hW0
  go_loopw [5] (fun i wr => ∃ k : Nat, k ≤ n ∧ i = .int .i64 (k : Int) ∧ (∃ s a2 l2 c2, SmX wr w.heap.size (sumTo (chF l) k) s a2 l2 c2) ∧ Below w.heap.size w wr) (fun i _ => n - (intOf i).toNat)
  case atStart => exact ⟨0, Nat.zero_le _, rfl, ⟨_, _, _, _, HT.out⟩, HB0.out⟩
  case round =>
    obtain ⟨k, hk, rfl, ⟨s, a2, l2, c2, hT⟩, hb⟩ := hrel
    have HS := Lib.hid hT
    have HB := Lib.hid hb
    clear hT hb
    obtain ⟨c0, c1, e0, e1⟩ := HS.out.row
    by_cases hlt : k < n
    · obtain ⟨x, hx⟩ : ∃ x, l[k]? = some x := ⟨l[k]'(by rw [← HN.out]; exact hlt), List.getElem?_eq_getElem _⟩
      obtain ⟨b, o, ha, _, _, z2, _, _⟩ := ln_at (HL.out.up HB.out) hx
      subst ha
      have hcx : chF l k = x.ch := by unfold chF; rw [lnAt_some hx]
      have hf := HF.out k
      rw [hcx] at hf
      obtain ⟨f1, f2⟩ := hf
      have HC : Hid (sumTo (chF l) (k + 1) = sumTo (chF l) k + x.ch) := by rw [← hcx]; exact Lib.hid rfl
      have hk0 : (0 : Int) ≤ (k : Int) := by omega
      have hk1 : (k : Int) < (n : Int) := by omega
      have hw1 : IntKind.i64.wrap ((k : Int) + 1) = (k : Int) + 1 := IntWalk.i64_in _ (by omega)
      have HSm := Lib.hid (sum_small HF.out (k := k) (by omega))
      clear hx hcx
      go_wp2_with fail
      go_region_with (first | (go_at_call 20; ((with_reducible refine (of_any x.ch _ f1 f2).mono ?_); rintro e' w1 ⟨s1, a1, n1, p1, rfl, hE1, hb1⟩; have kT1 := Lib.hid (HS.out.drew.up hb1); have kE1 := Lib.hid hE1; have kB1 := Lib.hid (up2 HB.out.drew hb1); clear hE1 hb1; obtain ⟨x0, x1, y0, y1⟩ := kT1.out.row)) | (go_at_call 19; ((with_reducible refine (plus_ex s s1 (sumTo (chF l) k) x.ch a2 a1 l2 n1 c2 p1 _ kT1.out.ex kE1.out HSm.out (small64 f1 f2)).mono ?_); rintro e' w2 ⟨s2, a3, n2, p2, rfl, hE2, hb2⟩; have kT2 := Lib.hid (kT1.out.up hb2); have kE2 := Lib.hid hE2; have kB2 := Lib.hid (up2 kB1.out hb2); clear hE2 hb2; obtain ⟨u2, u3, v2, v3⟩ := kT2.out.row)))
      all_goals
        go_wp2_with fail
        go_roundw
        case rel =>
          refine ⟨k + 1, by omega, by go_num, ⟨s2, a3, n2, p2, ?_⟩, (kB2.out.setCell (Nat.le_refl _) _).setCell (Nat.le_refl _) _⟩
          rw [HC.out]; exact kT2.out.put kE2.out
        case measure => simp [intOf]; omega
    · obtain rfl : k = n := by omega
      have HFt := Lib.hid (fit_any s (sumTo (chF l) k) a2 l2 c2 wr HS.out.ex (sum_small HF.out (by omega)))
      go_wp2_with fail
      refine HFt.out.mono ?_
      rintro e w2 ⟨rfl, hb2⟩
      have HB2 := Lib.hid (up2 HB.out hb2)
      clear hb2
      go_wp2_with fail
      go_ret2
      exact ⟨rfl, HB2.out⟩
end Go.Proofs.Ytjmgncjadfhmcaa
