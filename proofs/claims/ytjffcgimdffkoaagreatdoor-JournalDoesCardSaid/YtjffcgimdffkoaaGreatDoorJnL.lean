/- A row of strings that grows, wherever it begins in its block. -/
import Derived.Lib.AppendZeros
import Derived.Test.YtjffcgimdffkoaaGreatDoorJnJ
import Derived.Test.YtjffcgimdffkoaaGreatDoorRcH
namespace Go.Proofs.YtjffcgimdffkoaaGreatDoor
open Go.RowKit

/-- v is a slice of the strings xs, in block R (or nil) -/
def Rw (w : World) (R : Nat) (v : Value) (xs : List ByteArray) : Prop :=
  (v = .slice none 0 0 ∧ xs = []) ∨ ∃ (o c : Nat) (cs : Array Value), v = .slice (some ⟨R, o, none⟩) xs.length c ∧ Has w R 9 cs ∧ o + c ≤ cs.size ∧ xs.length ≤ c ∧ c ≤ maxLen ∧ ∀ (j : Nat) (x : ByteArray), xs[j]? = some x → cs[o + j]? = some (.string x)
theorem Rw.of {w w' : World} {R : Nat} {v : Value} {xs : List ByteArray} (h : Rw w R v xs) (k : ∀ cs, Has w R 9 cs → Has w' R 9 cs) : Rw w' R v xs := by
  rcases h with h | ⟨o, c, cs, h1, h2, h3⟩
  · exact .inl h
  · exact .inr ⟨o, c, cs, h1, k cs h2, h3⟩
theorem Rw.up {w w' : World} {R : Nat} {v : Value} {xs : List ByteArray} (h : Rw w R v xs) (k : Below w.heap.size w w') : Rw w' R v xs := h.of fun _ q => q.up k
theorem addr_plus (b off : Nat) (k : Nat) : (⟨b, off, none⟩ : Addr).add k = ⟨b, off + k, none⟩ := by
  unfold Addr.add
  split
  · subst k; rfl
  · rfl
theorem infoStr : (Tryz.prog.info? 9).map (fun i => (i.zero, i.size, i.bytes)) = some (some (.string ⟨#[]⟩), 1, 16) := zeroS

theorem run_room (w : World) (ty : TypeId) (i : TypeInfo) (hi : Tryz.prog.info? 9 = some i) (h1 : i.size = 1) (g o n c : Nat) (cur : Array Value) (hg : w.heap[g]? = some (.cells cur 9 (0, 0)))
    (y : Nat) (x : ByteArray) (hy : w.cell? ⟨y, 0, none⟩ = some (.string x)) (hroom : n + 1 ≤ c) (hfit : o + c ≤ cur.size) :
    (Builtin.append_ #[49, 49] ty #[.slice (some ⟨g, o, none⟩) n c, .slice (some ⟨y, 0, none⟩) 1 1]).run Tryz.prog w =
      .ok (.slice (some ⟨g, o, none⟩) (n + 1) c) (w.setRow g (cur.toList.take (o + n) ++ [Value.string x] ++ cur.toList.drop (o + n + 1)).toArray) := by
  have hnews : ∀ (j : Nat) (u : Value), [Value.string x][j]? = some u → w.cell? ((⟨y, 0, none⟩ : Addr).add j) = some u := fun j u e => by
    cases j with
    | zero => simp at e; subst e; exact hy
    | succ j => simp at e
  have hf := run_firstCells_some (P := Tryz.prog) w i.size 1 ⟨y, 0, none⟩ 1 1 [.string x] (by simp [h1]) hnews
  have hst := run_storeCells_at Tryz.prog g (o + n) 9 [.string x] 0 cur w hg (by simp; omega) (by simp [Value.oneCell'])
  simp only [Nat.add_zero] at hst
  simp [Builtin.append_, run_underlying Tryz.underlying49, sizeOf, typeInfo, hi, h1, Builtin.lenOf, hroom, addr_plus] at hf ⊢
  simp [hf, hst]

theorem Rw.app {w : World} {R : Nat} {v : Value} {xs : List ByteArray} (ty : TypeId) (h : Rw w R v xs) (hn : xs.length ≤ 100000) (y : Nat) (x : ByteArray) (hy : w.cell? ⟨y, 0, none⟩ = some (.string x)) :
    ∃ R' v' w', (Builtin.append_ #[49, 49] ty #[v, .slice (some ⟨y, 0, none⟩) 1 1]).run Tryz.prog w = .ok v' w' ∧ (R' = R ∨ w.heap.size ≤ R') ∧ R' < w'.heap.size ∧ Rw w' R' v' (xs ++ [x]) ∧ Turn (fun k => k = R) w w' := by
  obtain ⟨i, hi, hz0, hz1, hz2⟩ := info_parts infoStr
  have hnews : ∀ (j : Nat) (u : Value), [Value.string x][j]? = some u → w.cell? ((⟨y, 0, none⟩ : Addr).add j) = some u := fun j u e => by
    cases j with
    | zero => simp at e; subst e; exact hy
    | succ j => simp at e
  rcases h with ⟨rfl, rfl⟩ | ⟨o, c, cs, rfl, hR, hfit, hc, hcm, hx⟩
  · have hr := run_append_nil (P := Tryz.prog) w 49 ty 9 i _ Tryz.underlying49 hi hz0 ⟨y, 0, none⟩ 1 1 [.string x] (by simp [hz1]) hnews (by omega) (by omega) (by rw [hz2]; omega)
    refine ⟨w.heap.size, _, _, hr, .inr (Nat.le_refl _), by simp, .inr ⟨0, _, _, rfl, Has.fresh w.drew _ _, ?_, ?_, ?_, ?_⟩, ?_⟩
    · have := grownCap_ge w 1 0 9
      simp [size_zeroCells, Value.cells]; omega
    · exact grownCap_ge w 1 0 9
    · exact grownCap_le_maxLen w 1 0 9 (by unfold maxLen; omega)
    · intro j z e
      cases j with
      | zero =>
        simp at e; subst e
        rw [Nat.add_zero, Array.getElem?_append_left (by simp)]
        rfl
      | succ j => simp at e
    · exact Turn.of _ ⟨rfl, rfl, rfl, by simp, fun k hk => heap_alloc_old w.drew _ hk⟩
  · by_cases hroom : xs.length + 1 ≤ c
    · have hr := run_room w ty i hi hz1 R o xs.length c cs hR y x hy hroom hfit
      have hlt := hR.lt
      refine ⟨R, _, _, hr, .inl rfl, by simp [World.setRow]; exact hlt, .inr ⟨o, c, _, by simp, setRow_heap w R cs _ 9 _ hR, ?_, by simpa using hroom, hcm, ?_⟩, ⟨rfl, rfl, rfl, by simp, fun k _ q => setRow_other w R k _ q⟩⟩
      · simp; omega
      · intro j z e
        rw [List.getElem?_toArray]
        have hL : o + xs.length + [Value.string x].length ≤ cs.toList.length := by simp; omega
        have := over_at cs.toList [Value.string x] (o + xs.length) (o + j) (by simpa using hL)
        simp only [List.length_singleton] at this
        rw [this]
        by_cases q : j < xs.length
        · rw [if_pos (by omega), Array.getElem?_toList]
          rw [List.getElem?_append_left q] at e
          exact hx j z e
        · have hj : j = xs.length := by
            by_cases r : j < (xs ++ [x]).length
            · simp at r; omega
            · rw [List.getElem?_eq_none (by omega)] at e; cases e
          subst hj
          rw [if_neg (by omega), if_pos (by omega), show o + xs.length - (o + xs.length) = 0 by omega]
          rw [List.getElem?_append_right (Nat.le_refl _), Nat.sub_self] at e
          simp at e
          rw [e]
          rfl
    · have holds : ∀ (j : Nat) (u : Value), (xs.map Value.string)[j]? = some u → w.cell? ((⟨R, o, none⟩ : Addr).add j) = some u := fun j u e => by
        rw [addr_plus, hR.cell]
        rw [List.getElem?_map] at e
        cases hq : xs[j]? with
        | none => rw [hq] at e; cases e
        | some z => rw [hq] at e; cases e; exact hx j z hq
      have hr := run_append_grow (P := Tryz.prog) w 49 ty 9 i _ Tryz.underlying49 hi hz0 ⟨R, o, none⟩ xs.length c (xs.map Value.string) (by simp [hz1]) holds ⟨y, 0, none⟩ 1 1 [.string x] (by simp [hz1]) hnews (by omega) (by omega)
        (growslice_fits (by omega) (by rw [hz2]; omega))
      have hg := grownCap_ge w (xs.length + 1) c 9
      refine ⟨w.heap.size, _, _, hr, .inr (Nat.le_refl _), by simp, .inr ⟨0, grownCap w (xs.length + 1) c 9, _, by simp, Has.fresh w.drew _ _, ?_, ?_, ?_, ?_⟩, ?_⟩
      · simp [size_zeroCells, Value.cells]; omega
      · simp; omega
      · exact grownCap_le_maxLen w _ c 9 (by unfold maxLen; omega)
      · intro j z e
        rw [Nat.zero_add, Array.getElem?_append_left (by
          have hj : j < (xs ++ [x]).length := by
            by_cases r : j < (xs ++ [x]).length
            · exact r
            · rw [List.getElem?_eq_none (by omega)] at e; cases e
          simpa using hj)]
        rw [show (xs.map Value.string).toArray ++ [Value.string x].toArray = ((xs ++ [x]).map Value.string).toArray by simp, List.getElem?_toArray, List.getElem?_map, e]
        rfl
      · exact Turn.of _ ⟨rfl, rfl, rfl, by simp, fun k hk => heap_alloc_old w.drew _ hk⟩
end Go.Proofs.YtjffcgimdffkoaaGreatDoor

namespace Go.Proofs.YtjffcgimdffkoaaGreatDoor
open Go.RowKit

/-- the journal j in memory, at J, its records in R -/
structure Jv (w : World) (J R : Nat) (v : Value) (p n : Nat) (j : JS) : Prop where
  head : Has w J 66 (jcs p j.half (hlf n) (j.next - frm n j.half) (str (j.L.headD [])) v j.br)
  recs : Rw w R v (j.L.tail.map str)
  lt : R < w.heap.size
/-- a journal as it may be -/
structure Ok (n : Nat) (j : JS) : Prop where
  half : j.half ≤ 1
  lo : frm n j.half + j.L.length ≤ j.next
  hi : j.next ≤ til n j.half
  ne : j.L ≠ []
theorem Jv.keep {w w' : World} {J R p n : Nat} {v : Value} {j : JS} {F : Nat → Prop} (h : Jv w J R v p n j) (k : Turn F w w') (hJ : ¬ F J) (hR : ¬ F R) : Jv w' J R v p n j :=
  ⟨k.has h.head hJ, h.recs.of fun _ q => k.has q hR, Nat.lt_of_lt_of_le h.lt k.size⟩
theorem Jv.up {w w' : World} {J R p n : Nat} {v : Value} {j : JS} (h : Jv w J R v p n j) (k : Below w.heap.size w w') : Jv w' J R v p n j :=
  ⟨h.head.up k, h.recs.up k, Nat.lt_of_lt_of_le h.lt k.size⟩
theorem hlf_le {n : Nat} (hn : n ≤ 4096) : hlf n ≤ 2047 := by unfold hlf; omega
theorem Ok.len {n : Nat} {j : JS} (h : Ok n j) (hn : n ≤ 4096) : j.L.length ≤ 2047 := by
  have h1 := h.lo
  have h2 := h.hi
  have := hlf_le hn
  unfold til at h2
  omega

set_option maxHeartbeats 400000 in
theorem text_any (w : World) (J R : Nat) (v : Value) (p n : Nat) (j : JS) (h : Jv w J R v p n j) :
    Calls Tryz.prog 22 #[.pointer (some ⟨J, 0, none⟩)] w fun e w' => e = .returned (.string (str (j.L.headD []))) ∧ w = w' := by
  obtain ⟨t, ht⟩ : ∃ t, t = str (j.L.headD []) := ⟨_, rfl⟩
  have c4 : w.cell? ⟨J, 4, none⟩ = some (.string t) := by rw [ht]; exact h.head.cell 4
  rw [← ht]
  clear h ht
  go_enter Tryz.func22, Tryz.ntmps22
  go_wp2
  go_ret
  exact ⟨rfl, rfl⟩
set_option maxHeartbeats 400000 in
theorem room_any (w : World) (J R : Nat) (v : Value) (p n : Nat) (j : JS) (h : Jv w J R v p n j) (ok : Ok n j) (hn : n ≤ 4096) :
    Calls Tryz.prog 25 #[.pointer (some ⟨J, 0, none⟩)] w fun e w' => e = .returned (.int .i64 ((til n j.half : Int) - (j.next : Int))) ∧ ∃ q, w' = w.drewN q := by
  obtain ⟨u, hu⟩ : ∃ u, u = j.next - frm n j.half := ⟨_, rfl⟩
  obtain ⟨k, hk⟩ : ∃ k, k = hlf n := ⟨_, rfl⟩
  have c2 : w.cell? ⟨J, 2, none⟩ = some (.int .i64 (k : Int)) := by rw [hk]; exact h.head.cell 2
  have c3 : w.cell? ⟨J, 3, none⟩ = some (.int .i64 (u : Int)) := by rw [hu]; exact h.head.cell 3
  have h1 := ok.lo
  have h2 := ok.hi
  have h3 := hlf_le hn
  have e : (til n j.half : Int) - (j.next : Int) = (k : Int) - (u : Int) := by rw [hk, hu]; unfold til at h2 ⊢; omega
  rw [e]
  have hk0 : k ≤ 2047 := by omega
  have hu0 : u ≤ k := by rw [hk, hu]; unfold til at h2; omega
  have e1 : IntKind.i64.wrap ((k : Int) - (u : Int)) = (k : Int) - (u : Int) := IntWalk.i64_in _ (by omega)
  clear h hu hk ok h1 h2 h3 e
  go_enter Tryz.func25, Tryz.ntmps25
  go_wp2_with fail
  go_quiet (fail)
  go_wp2
  go_ret
  exact ⟨rfl, nq, rfl⟩

/-- a slice of strings, perhaps nil -/
def Strl (w : World) (B : Nat) (xs : List ByteArray) (e : Ending) (w' : World) : Prop := ∃ a c, e = .returned (.slice a xs.length c) ∧ StrA w' a xs ∧ xs.length ≤ c ∧ Below B w w'
theorem own_strA {w : World} {B n : Nat} {v : Value} {xs : List ByteArray} (h : w.ownsRow B 9 1 v n (xs.map Value.string)) (hl : xs.length = n) : ∃ a c, v = .slice a xs.length c ∧ StrA w a xs ∧ xs.length ≤ c := by
  subst hl
  rcases h.2 with ⟨rfl, h0⟩ | ⟨g, c, cur, rfl, _, hh, hc, _, _, ht⟩
  · exact ⟨none, 0, by rw [h0], .inl (List.eq_nil_of_length_eq_zero h0), by omega⟩
  · refine ⟨some ⟨g, 0, none⟩, c, rfl, .inr ⟨g, 0, rfl, fun j x e => ?_⟩, hc⟩
    have hj : j < xs.length := by
      by_cases r : j < xs.length
      · exact r
      · rw [List.getElem?_eq_none (by omega)] at e; cases e
    have hH : Has w g 9 cur := hh
    rw [Nat.zero_add, hH.cell, ← Array.getElem?_toList, ← List.getElem?_take_of_lt (j := xs.length * 1) (by omega), ht, List.getElem?_map, e]
    rfl
theorem clone_any (w : World) (R : Nat) (v : Value) (xs : List ByteArray) (h : Rw w R v xs) (hn : xs.length ≤ 100000) : Calls Tryz.prog 45 #[v] w (Strl w w.heap.size xs) := by
  rcases h with ⟨rfl, rfl⟩ | ⟨o, c, cs, rfl, hR, hfit, hc, hcm, hx⟩
  · refine (Tryz.slices_Clone_string_nil 0 0 w).mono ?_
    rintro e w' ⟨rfl, rfl⟩
    exact ⟨none, 0, rfl, .inl rfl, Nat.le_refl _, Below.refl _ _⟩
  · refine (Tryz.slices_Clone_string R o xs.length c xs w (Nat.le_refl _) (by omega) (fun j hj => ?_)).mono ?_
    · rw [hR.cell, hx j xs[j] (List.getElem?_eq_getElem hj), List.getD_eq_getElem?_getD, List.getElem?_eq_getElem hj]
      rfl
    · rintro e w' ⟨v', rfl, ho, _, hb⟩
      rw [List.take_of_length_le (Nat.le_refl _)] at ho
      obtain ⟨a, c', rfl, hs, hc'⟩ := own_strA ho rfl
      exact ⟨a, c', rfl, hs, hc', hb⟩
set_option maxHeartbeats 400000 in
theorem records_any (w : World) (J R : Nat) (v : Value) (p n : Nat) (j : JS) (h : Jv w J R v p n j) (ok : Ok n j) (hn : n ≤ 4096) :
    Calls Tryz.prog 24 #[.pointer (some ⟨J, 0, none⟩)] w (Strl w w.heap.size (j.L.tail.map str)) := by
  have c5 : w.cell? ⟨J, 5, none⟩ = some v := h.head.cell 5
  have HC := Lib.hid (clone_any w R v (j.L.tail.map str) h.recs (by have := ok.len hn; simp; omega))
  obtain ⟨xs, hxs⟩ : ∃ xs, xs = j.L.tail.map str := ⟨_, rfl⟩
  rw [← hxs] at HC ⊢
  clear h ok hxs
  go_enter Tryz.func24, Tryz.ntmps24
  go_wp2_with fail
  refine HC.out.mono ?_
  rintro e w' ⟨a, c, rfl, hs, hc, hb⟩
  have HS := Lib.hid hs
  have HB := Lib.hid hb
  have HCc := Lib.hid hc
  clear hs hb hc
  go_wp2
  go_ret
  exact ⟨a, c, rfl, HS.out, HCc.out, HB.out⟩
end Go.Proofs.YtjffcgimdffkoaaGreatDoor
