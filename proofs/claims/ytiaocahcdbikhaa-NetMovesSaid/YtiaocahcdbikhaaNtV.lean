/- NetMoves: its core, over any that does as is asked. -/
import Derived.Laws.OwnMore
import Derived.Test.YtiaocahcdbikhaaNtB
import Derived.Test.YtiaocahcdbikhaaRn
namespace Go.Proofs.Ytiaocahcdbikhaa
open Go.RowKit

theorem own_ne18 {w : World} {B T z n g T' : Nat} {v : Value} {xs : List Value} {cs : Array Value} (h : w.ownsRow B T z v n xs) (hh : Has w g T' cs) (hT : T ≠ T') : v.ownBlock ≠ some g := by
  rcases h.2 with ⟨rfl, _⟩ | ⟨g', cap, cur, rfl, _, h3, _⟩
  · simp [Value.ownBlock]
  · intro e
    have e : g' = g := by simpa [Value.ownBlock] using e
    subst e
    unfold Has at hh
    rw [hh] at h3
    injection h3 with h3
    injection h3 with _ e
    exact hT e.symm
theorem own_up18 {w w' : World} {B T z n : Nat} {v : Value} {xs : List Value} (h : w.ownsRow B T z v n xs) (q : Below w.heap.size w w') : w'.ownsRow B T z v n xs :=
  h.kept ⟨q.os, q.tape, q.output, q.size, fun i hi _ => q.block i hi⟩ (by cases v.ownBlock <;> simp) (row := none)
/-- a row of postings appended to one of a call's own -/
theorem app_posts {w : World} {B : Nat} {v : Value} {L M : List Po} (h : w.ownsRow B 35 3 v L.length (flat L)) (hB : B ≤ w.heap.size) (hl : L.length + M.length ≤ 100) (a : Option Addr) (c : Nat) (hp : PsA w a M) (hc : a = none → c = 0) {g : Nat} {cs : Array Value} (hg : Has w g 39 cs) :
    ∃ a' c' w', (Builtin.append_ #[26, 26] 26 #[v, .slice a M.length c]).run Try.prog w = .ok (.slice a' (L.length + M.length) c') w' ∧ w'.ownsRow B 35 3 (.slice a' (L.length + M.length) c') (L.length + M.length) (flat (L ++ M)) ∧ Has w' g 39 cs ∧ (∀ w0 : World, Below w0.heap.size w0 w → w0.heap.size ≤ B → Below w0.heap.size w0 w') := by
  obtain ⟨i, hi, hz0, hz1, hz2⟩ := info_parts infoPost
  have fin : ∀ v' w', w'.ownsRow B 35 3 v' (L.length + M.length) (flat L ++ flat M) → w.grownBy w' v.ownBlock → ∃ a' c', v' = .slice a' (L.length + M.length) c' ∧ w'.ownsRow B 35 3 (.slice a' (L.length + M.length) c') (L.length + M.length) (flat (L ++ M)) ∧ Has w' g 39 cs ∧ (∀ w0 : World, Below w0.heap.size w0 w → w0.heap.size ≤ B → Below w0.heap.size w0 w') := fun v' w' ho hgr => by
    have e : flat L ++ flat M = flat (L ++ M) := by simp [flat]
    rw [e] at ho
    obtain ⟨a', c', q, hq, _⟩ := own_psa ho
    refine ⟨a', c', q, q ▸ ho, (hgr.block g hg.lt (fun e => own_ne18 h hg (by decide) e.symm)).trans hg, fun w0 hb hle => hb.grown hgr hb.size fun j hj => ?_⟩
    have := (World.ownsRow.lt h j hj).1
    omega
  cases a with
  | none =>
    have hM : M = [] := by
      rcases hp with h | ⟨g, o, h, _⟩
      · exact h
      · cases h
    subst hM
    have hc := hc rfl
    subst hc
    obtain ⟨a', c', q, h1, h2, h3⟩ := fin v w (by simpa [flat] using h) ⟨rfl, rfl, rfl, Nat.le_refl _, fun _ _ _ => rfl⟩
    refine ⟨a', c', w, ?_, h1, h2, h3⟩
    rw [← q]
    exact run_append_owned_none w B 26 26 35 i 3 Try.underlying26 hi _ _ _ h
  | some ad =>
    obtain ⟨v', w', hr, ho, hgr, _⟩ := run_append_own (P := Try.prog) w B 26 26 35 i _ 3 24 Try.underlying26 hi hz0 hz1 hz2 rfl (by decide) v L.length _ h ad M.length c (flat M) (by rw [flat_len9])
      (fun j u hj => by
        obtain ⟨i, x, r, rfl, hx, hu, hr⟩ := flat_get9 hj
        rcases hp with hp | ⟨b, o, e, hp⟩
        · subst hp; simp at hx
        · obtain rfl : ad = ⟨b, o, none⟩ := Option.some.inj e
          rw [addr_off]
          have := hp i x hx
          match r, hr, hu with
          | 0, _, hu => simp [Po.cells] at hu; subst hu; exact this.1
          | 1, _, hu => simp [Po.cells] at hu; subst hu; exact this.2.1
          | 2, _, hu => simp [Po.cells] at hu; subst hu; exact this.2.2)
      (fun u hu => by
        obtain ⟨j, hj⟩ := List.getElem?_of_mem hu
        obtain ⟨i, x, r, rfl, hx, hu, hr⟩ := flat_get9 hj
        match r, hr, hu with
        | 0, _, hu => simp [Po.cells] at hu; subst hu; rfl
        | 1, _, hu => simp [Po.cells] at hu; subst hu; rfl
        | 2, _, hu => simp [Po.cells] at hu; subst hu; rfl) (by unfold maxLen; omega) (by omega) hB
    obtain ⟨a', c', q, h1, h2, h3⟩ := fin v' w' ho hgr
    subst q
    exact ⟨a', c', w', hr, h1, h2, h3⟩
theorem own_low18 {w : World} {B B' T z n : Nat} {v : Value} {xs : List Value} (h : w.ownsRow B T z v n xs) (q : B' ≤ B) : w.ownsRow B' T z v n xs :=
  ⟨h.1, h.2.imp id fun ⟨g, cap, cur, h1, h2, h3⟩ => ⟨g, cap, cur, h1, Nat.le_trans q h2, h3⟩⟩
theorem own_ps18 {w : World} {B n c : Nat} {a : Option Addr} {L : List Po} (h : w.ownsRow B 35 3 (.slice a n c) n (flat L)) : PsA w a L := by
  obtain ⟨a', c', q, hq, _⟩ := own_psa h
  injection q with q
  rw [q]; exact hq
/-- what a store into a box of four amounts leaves -/
theorem own_put18 {w : World} {B n g j : Nat} {v u : Value} {xs : List Value} {cs : Array Value} (h : w.ownsRow B 35 3 v n xs) (hg : Has w g 39 cs) : (w.setCell ⟨g, j, none⟩ u).ownsRow B 35 3 v n xs :=
  h.kept ⟨rfl, rfl, rfl, by simp, fun k _ hn => Below.heap_setCell w ⟨g, j, none⟩ u k (fun e => hn (by rw [e]))⟩ (.inr (own_ne18 h hg (by decide))) (row := some g)
/-- what the first postings moved of an account, as it lies -/
def mvW (s j : Int) (L : List Po) : Int := IntKind.i64.wrap (s + movPo j L)
theorem tellV18 {v : Int} (h : Am v) : tellV v = v := by unfold Am at h; unfold tellV; rw [if_pos (by omega)]
theorem tellE_or18 (v : Int) : tellE v = 0 ∧ tellV v = v ∨ tellE v = 3 := by unfold tellE tellV; split <;> simp
theorem tellE18 {v : Int} (h : Am v) : tellE v = 0 := by unfold Am at h; unfold tellE; rw [if_pos (by omega)]
theorem mvW_nil {s j : Int} (h : Am s) : mvW s j [] = s := by
  unfold mvW movPo
  rw [Int.add_zero]; exact IntWalk.i64_in _ h
theorem mvW_add (s j : Int) (L : List Po) (p : Po) : mvW s j (L ++ [p]) = if p.a = j then IntKind.i64.wrap (mvW s j L + p.m) else mvW s j L := by
  unfold mvW
  rw [movPo_app]
  simp only [movPo, Int.add_zero, IntWalk.i64_left]
  split
  · unfold wrap64; omega
  · rw [Int.add_zero]
theorem movPo_take {L : List Po} {k : Nat} {p : Po} (h : L[k]? = some p) : L.take (k + 1) = L.take k ++ [p] := by rw [List.take_add_one, h]; rfl
end Go.Proofs.Ytiaocahcdbikhaa
