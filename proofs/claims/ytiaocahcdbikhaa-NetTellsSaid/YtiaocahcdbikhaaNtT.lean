/- The reference's net: Sides, with. -/
import Derived.Test.YtiaocahcdbikhaaNtV
namespace Go.Proofs.Ytiaocahcdbikhaa
open Go.RowKit

set_option maxRecDepth 100000 in
set_option maxHeartbeats 2000000 in
theorem qntSides_any (b r : Int) (w : World) (hb : Am b) (hr : Am r) : Calls Try.prog 9 #[.int .i64 b, .int .i64 r] w fun e w' => e = .returned (.tuple #[.int .i64 (sidL b r), .int .i64 (sidA b r), .int .i64 (sidE b r)]) ∧ Below w.heap.size w w' := by
  unfold Am at hb hr
  by_cases q1 : b < 0
  · have e0 : sidE b r = 1 := by unfold sidE; rw [if_pos (.inl q1)]
    unfold sidL sidA
    rw [e0, if_neg (by decide), if_neg (by decide)]
    clear e0 hb hr
    go_enter Try.func9, Try.ntmps9
    go_wp2_with fail
    exact bodyPost_ret (v := .tuple #[.int .i64 0, .int .i64 0, .int .i64 1]) (by simp [results, Try.results9, go_sem]) rfl ⟨rfl, Below.refl _ _⟩
  by_cases q2 : r < 0
  · have e0 : sidE b r = 1 := by unfold sidE; rw [if_pos (.inr q2)]
    unfold sidL sidA
    rw [e0, if_neg (by decide), if_neg (by decide)]
    clear e0 hb hr
    go_enter Try.func9, Try.ntmps9
    go_wp2_with fail
    exact bodyPost_ret (v := .tuple #[.int .i64 0, .int .i64 0, .int .i64 1]) (by simp [results, Try.results9, go_sem]) rfl ⟨rfl, Below.refl _ _⟩
  have e0 : sidE b r = 0 := by unfold sidE; rw [if_neg (by omega)]
  unfold sidL sidA
  rw [e0, if_pos rfl, if_pos rfl]
  by_cases q3 : r < b
  · have e1 : liaV b r = b - r := by unfold liaV; rw [if_pos q3]
    have e2 : assV b r = 0 := by unfold assV; rw [if_pos q3]
    have e3 : IntKind.i64.wrap (b - r) = b - r := IntWalk.i64_in _ (by omega)
    rw [e1, e2]
    clear e0 hb hr e1 e2
    go_enter Try.func9, Try.ntmps9
    go_wp2_with fail
    exact bodyPost_ret (v := .tuple #[.int .i64 (b - r), .int .i64 0, .int .i64 0]) (by simp [results, Try.results9, go_sem]) rfl ⟨rfl, Below.refl _ _⟩
  · have e1 : liaV b r = 0 := by unfold liaV; rw [if_neg q3]
    have e2 : assV b r = r - b := by unfold assV; rw [if_neg q3]
    have e3 : IntKind.i64.wrap (r - b) = r - b := IntWalk.i64_in _ (by omega)
    rw [e1, e2]
    clear e0 hb hr e1 e2
    go_enter Try.func9, Try.ntmps9
    go_wp2_with fail
    exact bodyPost_ret (v := .tuple #[.int .i64 0, .int .i64 (r - b), .int .i64 0]) (by simp [results, Try.results9, go_sem]) rfl ⟨rfl, Below.refl _ _⟩
/-- a row of postings of a call's own -/
def OwP (w0 w : World) (v : Value) (L : List Po) : Prop := w.ownsRow w0.heap.size 35 3 v L.length (flat L) ∧ Below w0.heap.size w0 w
theorem OwP.up {w0 w w' : World} {v : Value} {L : List Po} (h : OwP w0 w v L) (q : Below w.heap.size w w') : OwP w0 w' v L := ⟨own_up18 h.1 q, h.2.trans (q.mono h.2.size)⟩
theorem OwP.form {w0 w : World} {v : Value} {L : List Po} (h : OwP w0 w v L) : ∃ a c, v = .slice a L.length c := by
  obtain ⟨a, c, e, _⟩ := own_psa h.1
  exact ⟨a, c, e⟩
theorem flat_app18 (l k : List Po) : flat (l ++ k) = flat l ++ flat k := by simp [flat]
theorem OwP.push {w0 w : World} {v : Value} {L : List Po} (h : OwP w0 w v L) (hl : L.length ≤ 8) (x : Po) :
    ∃ a c a' c' w', v = .slice a L.length c ∧ (Builtin.append_ #[26, 26] 26 #[.slice a L.length c, .slice (some ⟨w.heap.size, 0, none⟩) 1 1]).run Try.prog (w.alloc (.cells #[.int .i64 x.a, .int .i64 x.c, .int .i64 x.m] 35)) = .ok (.slice a' (L.length + 1) c') w' ∧ OwP w0 w' (.slice a' (L.length + 1) c') (L ++ [x]) := by
  obtain ⟨a, c, rfl⟩ := h.form
  obtain ⟨i, hi, hz0, hz1, hz2⟩ := info_parts infoPost
  have hy := Has.fresh w 35 #[.int .i64 x.a, .int .i64 x.c, .int .i64 x.m]
  have hb := boxed w (.cells #[.int .i64 x.a, .int .i64 x.c, .int .i64 x.m] 35)
  have h1 := h.up hb
  obtain ⟨v', w', hr, ho, hg, _⟩ := run_append_own (P := Try.prog) _ w0.heap.size 26 26 35 i _ 3 24 Try.underlying26 hi hz0 hz1 hz2 rfl (by decide) _ L.length _ h1.1 ⟨w.heap.size, 0, none⟩ 1 1 (flat [x]) rfl
    (fun j u hu => by
      rw [addr_off, Nat.zero_add, hy.cell]
      exact (List.getElem?_toArray (xs := flat [x]) (i := j)).trans hu)
    (fun u hu => by rw [show flat [x] = [.int .i64 x.a, .int .i64 x.c, .int .i64 x.m] from rfl] at hu; simp at hu; rcases hu with rfl | rfl | rfl <;> rfl) (by unfold maxLen; omega) (by omega) h1.2.size
  have ho' : w'.ownsRow w0.heap.size 35 3 v' (L ++ [x]).length (flat (L ++ [x])) := by rw [List.length_append, flat_app18]; exact ho
  obtain ⟨a', c', e, _⟩ := own_psa ho'
  rw [List.length_append, List.length_singleton] at e
  subst e
  exact ⟨a, c, a', c', w', rfl, hr, ho', h1.2.grown hg h1.2.size fun j hj => (World.ownsRow.lt h1.1 j hj).1⟩
/-- what one more answers -/
def OwR (w0 : World) (L : List Po) (e : Ending) (w' : World) : Prop := ∃ a c, e = .returned (.slice a L.length c) ∧ OwP w0 w' (.slice a L.length c) L
set_option maxRecDepth 100000 in
set_option maxHeartbeats 2000000 in
theorem qntwith_any {w0 w : World} {v : Value} {L : List Po} (h : OwP w0 w v L) (hl : L.length ≤ 8) (a c n : Int) : Calls Try.prog 22 #[v, .int .i64 a, .int .i64 c, .int .i64 n] w (OwR w0 (L ++ onePo a c n)) := by
  unfold OwR
  obtain ⟨a0, c0, rfl⟩ := h.form
  unfold onePo
  by_cases q : n = 0
  · subst q
    rw [if_pos rfl, List.append_nil]
    have HH := Lib.hid h
    generalize L.length = k at HH ⊢
    clear h hl
    go_enter Try.func22, Try.ntmps22
    go_wp2_with fail
    go_ret
    exact ⟨a0, c0, rfl, HH.out⟩
  · rw [if_neg q]
    have q' : (n == 0) = false := by simpa using q
    obtain ⟨a1, c1, a2, c2, w6, e1, hr, hT⟩ := h.push hl ⟨a, c, n⟩
    injection e1 with e1 _ e3
    subst e1; subst e3
    rw [List.length_append, List.length_singleton]
    have HR := Lib.hid hr
    have HT := Lib.hid hT
    generalize L.length = k at HR HT ⊢
    clear h hl hr hT q
    go_enter Try.func22, Try.ntmps22
    go_wp2_with (first | (at_builtin; refine wpList_run (o := ⟨some 18, _, _, _, _, _⟩) rfl (.tmp 12) (.tmp 17) 26 rfl _ _ rfl rfl (S := fun u q => u = .slice a2 (k + 1) c2 ∧ q = w6) ⟨_, w6, HR.out, rfl, rfl⟩ ?_; rintro u q ⟨rfl, rfl⟩) | fail)
    go_ret
    exact ⟨a2, c2, rfl, HT.out⟩
end Go.Proofs.Ytiaocahcdbikhaa
