/- DutyEach: two rows of numbers; sums. -/
import Derived.Test.YtjmgncjadfhmcaaDuL
namespace Go.Proofs.Ytjmgncjadfhmcaa
open Go.RowKit

def twL (v1 : Value) (z1 : List Int) (v2 : Value) (z2 : List Int) : List Ob := [⟨2, 1, v1, z1.length, z1.flatMap i64C⟩, ⟨2, 1, v2, z2.length, z2.flatMap i64C⟩]
structure TwS (w0 w : World) (v1 : Value) (z1 : List Int) (v2 : Value) (z2 : List Int) : Prop where
  own : OwL w w0.heap.size (twL v1 z1 v2 z2)
  bel : Below w0.heap.size w0 w
structure RunT (w0 w W : World) (b T : Nat) (cs : Array Value) (v1 : Value) (z1 : List Int) (v2 : Value) (z2 : List Int) (w' : World) : Prop where
  ea : TwS w0 w' v1 z1 v2 z2
  box : Has w' b T cs
  keep : ∀ k i u, w.heap.size ≤ k → W.cell? ⟨k, i, none⟩ = some u → w'.cell? ⟨k, i, none⟩ = some u
section
variable {w0 w w' : World} {v1 v2 : Value} {z1 z2 : List Int}
theorem TwS.up (h : TwS w0 w v1 z1 v2 z2) (q : Below w.heap.size w w') : TwS w0 w' v1 z1 v2 z2 := ⟨h.own.up q, up2 h.bel q⟩
theorem TwS.start (w : World) : TwS w w (.slice none 0 0) [] (.slice none 0 0) [] :=
  ⟨OwL.nils fun x hx => by
    simp only [twL, List.mem_cons, List.not_mem_nil, or_false] at hx
    rcases hx with rfl | rfl <;> exact ⟨_, _, rfl⟩, Below.refl _ _⟩
theorem TwS.box (h : TwS w0 w v1 z1 v2 z2) {b T : Nat} {cs : Array Value} (hh : Has w b T cs) (hT : T ≠ 2) : v1.ownBlock ≠ some b ∧ v2.ownBlock ≠ some b := by
  have key : ∀ (i : Nat) (v : Value) (m : Nat) (xs : List Value), (twL v1 z1 v2 z2)[i]? = some ⟨2, 1, v, m, xs⟩ → v.ownBlock ≠ some b := fun i v m xs hi e => by
    rcases (h.own.own i _ hi).2 with ⟨e1, _⟩ | ⟨g', cp, cur, e1, _, e2, _⟩
    · have e1 : v = .slice none 0 0 := e1
      rw [e1] at e; cases e
    · have e1 : v = .slice (some ⟨g', 0, none⟩) m cp := e1
      rw [e1] at e
      injection e with e
      have e : g' = b := e
      subst e
      unfold Has at hh
      rw [hh] at e2
      injection e2 with e2
      injection e2 with _ e3
      exact hT e3
  exact ⟨key 0 _ _ _ rfl, key 1 _ _ _ rfl⟩
theorem TwS.run1 {W : World} (h : TwS w0 w v1 z1 v2 z2) {b T : Nat} {cs : Array Value} (hh : Has w b T cs) (hT : T ≠ 2) (q : Below w.heap.size w W) (hn : z1.length ≤ 1000) (x : Int) {y : Nat} (hy : W.cell? ⟨y, 0, none⟩ = some (.int .i64 x)) :
    ∃ v w5, (Builtin.append_ #[41, 41] 41 #[v1, .slice (some ⟨y, 0, none⟩) 1 1]).run Try.prog W = .ok v w5 ∧ RunT w0 w W b T cs v (z1 ++ [x]) v2 z2 w5 := by
  have hq := h.up q
  obtain ⟨v, w5, hr, ho, hb, hs, _, hg⟩ := hq.own.app2 (i := 0) rfl (t := 41) (ty := 41) Try.underlying41 infoI64d rfl (Nat.zero_lt_succ _) (by decide) (i64C x) rfl (ad := ⟨y, 0, none⟩) (fun j u hu => by
    match j, hu with
    | 0, hu => simp [i64C] at hu; rw [addr_off, Nat.zero_add, ← hu]; exact hy) (fun u hu => by simp [i64C] at hu; rw [hu]; rfl) (by simp only; omega) hq.bel (Nat.le_refl _) hq.bel.size
  have e : (twL v1 z1 v2 z2).set 0 ⟨2, 1, v, z1.length + 1, z1.flatMap i64C ++ i64C x⟩ = twL v (z1 ++ [x]) v2 z2 := by
    unfold twL
    rw [List.set_cons_zero, List.flatMap_append, List.length_append]; rfl
  refine ⟨v, w5, hr, ⟨by rw [← e]; exact ho, hb⟩, ?_, fun k i u hk hu => hg.cell hu fun e => ?_⟩
  · have hb := hh.up q
    exact (hg.block b hb.lt (fun e => (h.box hh hT).1 e.symm)).trans hb
  · have := ((h.own.own 0 _ rfl).lt k e.symm).2
    omega
theorem TwS.run2 {W : World} (h : TwS w0 w v1 z1 v2 z2) {b T : Nat} {cs : Array Value} (hh : Has w b T cs) (hT : T ≠ 2) (q : Below w.heap.size w W) (hn : z2.length ≤ 1000) (x : Int) {y : Nat} (hy : W.cell? ⟨y, 0, none⟩ = some (.int .i64 x)) :
    ∃ v w5, (Builtin.append_ #[41, 41] 41 #[v2, .slice (some ⟨y, 0, none⟩) 1 1]).run Try.prog W = .ok v w5 ∧ RunT w0 w W b T cs v1 z1 v (z2 ++ [x]) w5 := by
  have hq := h.up q
  obtain ⟨v, w5, hr, ho, hb, hs, _, hg⟩ := hq.own.app2 (i := 1) rfl (t := 41) (ty := 41) Try.underlying41 infoI64d rfl (Nat.zero_lt_succ _) (by decide) (i64C x) rfl (ad := ⟨y, 0, none⟩) (fun j u hu => by
    match j, hu with
    | 0, hu => simp [i64C] at hu; rw [addr_off, Nat.zero_add, ← hu]; exact hy) (fun u hu => by simp [i64C] at hu; rw [hu]; rfl) (by simp only; omega) hq.bel (Nat.le_refl _) hq.bel.size
  have e : (twL v1 z1 v2 z2).set 1 ⟨2, 1, v, z2.length + 1, z2.flatMap i64C ++ i64C x⟩ = twL v1 z1 v (z2 ++ [x]) := by
    unfold twL
    rw [List.set_cons_succ, List.set_cons_zero, List.flatMap_append, List.length_append]; rfl
  refine ⟨v, w5, hr, ⟨by rw [← e]; exact ho, hb⟩, ?_, fun k i u hk hu => hg.cell hu fun e => ?_⟩
  · have hb := hh.up q
    exact (hg.block b hb.lt (fun e => (h.box hh hT).2 e.symm)).trans hb
  · have := ((h.own.own 1 _ rfl).lt k e.symm).2
    omega
end
/-- a row of numbers in memory -/
def ZsA (w : World) (v : Value) (z : List Int) : Prop := ∃ g c, v = .slice (some ⟨g, 0, none⟩) z.length c ∧ ∀ k x, z[k]? = some x → w.cell? ⟨g, k, none⟩ = some (.int .i64 x)
theorem ZsA.up {w w' : World} {v : Value} {z : List Int} (h : ZsA w v z) (q : Below w.heap.size w w') : ZsA w' v z := by
  obtain ⟨g, c, e, h⟩ := h
  exact ⟨g, c, e, fun k x hx => kcell q (h k x hx)⟩
theorem zs_of {w : World} {B : Nat} {L : List Ob} (h : OwL w B L) {i : Nat} {v : Value} {z : List Int} (hi : L[i]? = some ⟨2, 1, v, z.length, z.flatMap i64C⟩) (hz : 0 < z.length) : ZsA w v z := by
  obtain ⟨a, c, e, h1, h2⟩ := h.form hi
  have e : v = .slice a z.length c := e
  subst e
  cases a with
  | none => have := (h1 rfl).1; simp at this; rw [this] at hz; simp at hz
  | some ad =>
    obtain ⟨g, rfl⟩ := h2 ad rfl
    refine ⟨g, c, rfl, fun k x hx => ?_⟩
    rcases (OwL.rws i64_len h hi rfl).1 with q | ⟨b, o, q, hc⟩
    · rw [q] at hx; simp at hx
    · injection q with q
      injection q with q1 q2
      subst q1; subst q2
      have := hc k x hx 0 _ rfl
      rwa [Nat.mul_one, Nat.zero_add, Nat.add_zero] at this
def sumZ (z : List Int) : Int := sumTo (fun k => z.getD k 0) z.length
theorem zs_sum {w : World} {v : Value} {z : List Int} (h : ZsA w v z) (hz : z.length ≤ 1000) (ha : ∀ x ∈ z, Am x) : Calls Try.prog 15 #[v] w fun e w' => e = .returned (.tuple #[.int .i64 (tellV (sumZ z)), .int .i64 (tellE (sumZ z))]) ∧ Below w.heap.size w w' := by
  obtain ⟨g, c, rfl, hc⟩ := h
  refine sum_some (fun k => z.getD k 0) (fun k => ?_) g 0 z.length c w (by omega) (fun k hk => ?_)
  · show Am (z.getD k 0)
    rw [List.getD_eq_getElem?_getD]
    cases q : z[k]? with
    | none => exact am_small (by decide) (by decide)
    | some x => exact ha x (List.mem_of_getElem? q)
  · show w.cell? _ = some (Value.int .i64 (z.getD k 0))
    rw [Nat.zero_add, List.getD_eq_getElem?_getD, List.getElem?_eq_getElem hk, Option.getD_some]
    exact hc k _ (List.getElem?_eq_getElem hk)
theorem sumTo_take (h : Nat → Int) (L : List Nat) : ∀ k, k ≤ L.length → sumTo (fun k => (L.map h).getD k 0) k = sumN h (L.take k)
  | 0, _ => by simp [sumTo, sumN]
  | k + 1, hk => by
    have hx : L[k]? = some L[k] := List.getElem?_eq_getElem (by omega)
    rw [sumTo, sumTo_take h L k (by omega), take_snoc hx, sumN_snoc, List.getD_eq_getElem?_getD, List.getElem?_map, hx]; rfl
theorem sumZ_map (h : Nat → Int) (L : List Nat) : sumZ (L.map h) = sumN h L := by
  unfold sumZ
  rw [List.length_map, sumTo_take h L L.length (Nat.le_refl _), List.take_length]
end Go.Proofs.Ytjmgncjadfhmcaa
