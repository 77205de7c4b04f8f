/- A journal in memory: Text, Records, Room, Append. -/
import Derived.Test.YtjffcgimdffkoaaDoorJnK
import Derived.Test.YtjffcgimdffkoaaDoorRcS
namespace Go.Proofs.YtjffcgimdffkoaaDoor
open Go.RowKit

/-- the journal j in memory, at J, its records in R -/
structure Jv (w : World) (J R : Nat) (v : Value) (p n : Nat) (j : JS) : Prop where
  head : Has w J 63 (jcs p j.half (hlf n) (j.next - frm n j.half) (str (j.L.headD [])) v j.br)
  recs : Rw w R v (j.L.tail.map str)
  lt : R < w.heap.size
/-- a journal as it may be -/
structure Ok (n : Nat) (j : JS) : Prop where
  half : j.half ≤ 1
  lo : frm n j.half + j.L.length ≤ j.next
  hi : j.next ≤ til n j.half
  ne : j.L ≠ []
theorem Jv.keep {w w' : World} {J R p n : Nat} {v : Value} {j : JS} {F : Nat → Prop} (h : Jv w J R v p n j) (k : Turn F w w') (hJ : ¬ F J) (hR : ¬ F R) : Jv w' J R v p n j :=
  ⟨k.has h.head hJ, h.recs.of fun _ q => k.has q hR, Nat.lt_of_lt_of_le h.lt k.size⟩
theorem Jv.up {w w' : World} {J R p n : Nat} {v : Value} {j : JS} (h : Jv w J R v p n j) (k : Below w.heap.size w w') : Jv w' J R v p n j :=
  ⟨h.head.up k, h.recs.up k, Nat.lt_of_lt_of_le h.lt k.size⟩
theorem hlf_le {n : Nat} (hn : n ≤ 4096) : hlf n ≤ 2047 := by unfold hlf; omega
theorem Ok.len {n : Nat} {j : JS} (h : Ok n j) (hn : n ≤ 4096) : j.L.length ≤ 2047 := by
  have h1 := h.lo
  have h2 := h.hi
  have := hlf_le hn
  unfold til at h2
  omega

set_option maxHeartbeats 400000 in
theorem text_any (w : World) (J R : Nat) (v : Value) (p n : Nat) (j : JS) (h : Jv w J R v p n j) :
    Calls Tryd.prog 14 #[.pointer (some ⟨J, 0, none⟩)] w fun e w' => e = .returned (.string (str (j.L.headD []))) ∧ w = w' := by
  obtain ⟨t, ht⟩ : ∃ t, t = str (j.L.headD []) := ⟨_, rfl⟩
  have c4 : w.cell? ⟨J, 4, none⟩ = some (.string t) := by rw [ht]; exact h.head.cell 4
  rw [← ht]
  clear h ht
  go_enter Tryd.func14, Tryd.ntmps14
  go_wp2
  go_ret
  exact ⟨rfl, rfl⟩
set_option maxHeartbeats 400000 in
theorem room_any (w : World) (J R : Nat) (v : Value) (p n : Nat) (j : JS) (h : Jv w J R v p n j) (ok : Ok n j) (hn : n ≤ 4096) :
    Calls Tryd.prog 16 #[.pointer (some ⟨J, 0, none⟩)] w fun e w' => e = .returned (.int .i64 ((til n j.half : Int) - (j.next : Int))) ∧ ∃ q, w' = w.drewN q := by
  obtain ⟨u, hu⟩ : ∃ u, u = j.next - frm n j.half := ⟨_, rfl⟩
  obtain ⟨k, hk⟩ : ∃ k, k = hlf n := ⟨_, rfl⟩
  have c2 : w.cell? ⟨J, 2, none⟩ = some (.int .i64 (k : Int)) := by rw [hk]; exact h.head.cell 2
  have c3 : w.cell? ⟨J, 3, none⟩ = some (.int .i64 (u : Int)) := by rw [hu]; exact h.head.cell 3
  have h1 := ok.lo
  have h2 := ok.hi
  have h3 := hlf_le hn
  have e : (til n j.half : Int) - (j.next : Int) = (k : Int) - (u : Int) := by rw [hk, hu]; unfold til at h2 ⊢; omega
  rw [e]
  have hk0 : k ≤ 2047 := by omega
  have hu0 : u ≤ k := by rw [hk, hu]; unfold til at h2; omega
  have e1 : IntKind.i64.wrap ((k : Int) - (u : Int)) = (k : Int) - (u : Int) := IntWalk.i64_in _ (by omega)
  clear h hu hk ok h1 h2 h3 e
  go_enter Tryd.func16, Tryd.ntmps16
  go_wp2_with fail
  go_quiet (fail)
  go_wp2
  go_ret
  exact ⟨rfl, nq, rfl⟩

/-- a slice of strings, perhaps nil -/
def Strl (w : World) (B : Nat) (xs : List ByteArray) (e : Ending) (w' : World) : Prop := ∃ a c, e = .returned (.slice a xs.length c) ∧ StrA w' a xs ∧ xs.length ≤ c ∧ Below B w w'
theorem own_strA {w : World} {B n : Nat} {v : Value} {xs : List ByteArray} (h : w.ownsRow B 9 1 v n (xs.map Value.string)) (hl : xs.length = n) : ∃ a c, v = .slice a xs.length c ∧ StrA w a xs ∧ xs.length ≤ c := by
  subst hl
  rcases h.2 with ⟨rfl, h0⟩ | ⟨g, c, cur, rfl, _, hh, hc, _, _, ht⟩
  · exact ⟨none, 0, by rw [h0], .inl (List.eq_nil_of_length_eq_zero h0), by omega⟩
  · refine ⟨some ⟨g, 0, none⟩, c, rfl, .inr ⟨g, 0, rfl, fun j x e => ?_⟩, hc⟩
    have hj : j < xs.length := by
      by_cases r : j < xs.length
      · exact r
      · rw [List.getElem?_eq_none (by omega)] at e; cases e
    have hH : Has w g 9 cur := hh
    rw [Nat.zero_add, hH.cell, ← Array.getElem?_toList, ← List.getElem?_take_of_lt (j := xs.length * 1) (by omega), ht, List.getElem?_map, e]
    rfl
theorem clone_any (w : World) (R : Nat) (v : Value) (xs : List ByteArray) (h : Rw w R v xs) (hn : xs.length ≤ 100000) : Calls Tryd.prog 28 #[v] w (Strl w w.heap.size xs) := by
  rcases h with ⟨rfl, rfl⟩ | ⟨o, c, cs, rfl, hR, hfit, hc, hcm, hx⟩
  · refine (Tryd.slices_Clone_string_nil 0 0 w).mono ?_
    rintro e w' ⟨rfl, rfl⟩
    exact ⟨none, 0, rfl, .inl rfl, Nat.le_refl _, Below.refl _ _⟩
  · refine (Tryd.slices_Clone_string R o xs.length c xs w (Nat.le_refl _) (by omega) (fun j hj => ?_)).mono ?_
    · rw [hR.cell, hx j xs[j] (List.getElem?_eq_getElem hj), List.getD_eq_getElem?_getD, List.getElem?_eq_getElem hj]
      rfl
    · rintro e w' ⟨v', rfl, ho, _, hb⟩
      rw [List.take_of_length_le (Nat.le_refl _)] at ho
      obtain ⟨a, c', rfl, hs, hc'⟩ := own_strA ho rfl
      exact ⟨a, c', rfl, hs, hc', hb⟩
set_option maxHeartbeats 400000 in
theorem records_any (w : World) (J R : Nat) (v : Value) (p n : Nat) (j : JS) (h : Jv w J R v p n j) (ok : Ok n j) (hn : n ≤ 4096) :
    Calls Tryd.prog 15 #[.pointer (some ⟨J, 0, none⟩)] w (Strl w w.heap.size (j.L.tail.map str)) := by
  have c5 : w.cell? ⟨J, 5, none⟩ = some v := h.head.cell 5
  have HC := Lib.hid (clone_any w R v (j.L.tail.map str) h.recs (by have := ok.len hn; simp; omega))
  obtain ⟨xs, hxs⟩ : ∃ xs, xs = j.L.tail.map str := ⟨_, rfl⟩
  rw [← hxs] at HC ⊢
  clear h ok hxs
  go_enter Tryd.func15, Tryd.ntmps15
  go_wp2_with fail
  refine HC.out.mono ?_
  rintro e w' ⟨a, c, rfl, hs, hc, hb⟩
  have HS := Lib.hid hs
  have HB := Lib.hid hb
  have HCc := Lib.hid hc
  clear hs hb hc
  go_wp2
  go_ret
  exact ⟨a, c, rfl, HS.out, HCc.out, HB.out⟩
end Go.Proofs.YtjffcgimdffkoaaDoor
