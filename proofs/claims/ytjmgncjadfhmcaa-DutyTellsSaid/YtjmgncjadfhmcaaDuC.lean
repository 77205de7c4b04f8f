/- together. -/
import Derived.Test.YtjmgncjadfhmcaaDuB
namespace Go.Proofs.Ytjmgncjadfhmcaa
open Go.RowKit

theorem infoBond : (Try.prog.info? 88).map (fun i => (i.zero, i.size, i.bytes)) = some (some (.agg #[.int .i64 0, .int .i64 0]), 2, 16) := by kernel_rfl
theorem infoInts : (Try.prog.info? 40).map (fun i => (i.zero, i.size, i.bytes)) = some (some (.slice none 0 0), 1, 24) := by kernel_rfl
theorem infoInt : (Try.prog.info? 3).map (fun i => (i.zero, i.size, i.bytes)) = some (some (.int .i64 0), 1, 8) := by kernel_rfl
/-- a row of places on its way: its value, its places -/
abbrev Inr := Value × List Nat
def inOb (x : Inr) : Ob := ⟨3, 1, x.1, x.2.length, x.2.map natV⟩
/-- the rows of together's own -/
def tgL (vb vr : Value) (ks : List Kk) (X : List Inr) : List Ob :=
  ⟨88, 2, vb, ks.length, ks.flatMap keyC⟩ :: ⟨40, 1, vr, X.length, X.map (·.1)⟩ :: X.map inOb
/-- what together bears on its way -/
structure TgO (w0 w : World) (vb vr : Value) (ks : List Kk) (X : List Inr) : Prop where
  own : OwL w w0.heap.size (tgL vb vr ks X)
  bel : Below w0.heap.size w0 w
section
variable {w0 w w' : World} {vb vr : Value} {ks : List Kk} {X : List Inr}
theorem TgO.up (h : TgO w0 w vb vr ks X) (q : Below w.heap.size w w') : TgO w0 w' vb vr ks X := ⟨h.own.up q, up2 h.bel q⟩
theorem TgO.start (w : World) : TgO w w (.slice none 0 0) (.slice none 0 0) [] [] := by
  refine ⟨OwL.nils fun x hx => ?_, Below.refl _ _⟩
  simp only [tgL, List.map_nil, List.mem_cons, List.not_mem_nil, or_false] at hx
  rcases hx with rfl | rfl
  · exact ⟨_, _, rfl⟩
  · exact ⟨_, _, rfl⟩
theorem keysTo_le (K : Nat → Kk) (k : Nat) : (keysTo K k).length ≤ k := by
  unfold keysTo fsts
  rw [List.length_map]
  exact Nat.le_trans (List.length_filter_le _ _) (by simp)
theorem TgO.keys (h : TgO w0 w vb vr ks X) : ∃ a c, vb = .slice a ks.length c ∧ KyA w a ks := by
  obtain ⟨a, c, e, _⟩ := h.own.form (i := 0) rfl
  have e : vb = .slice a ks.length c := e
  subst e
  exact ⟨a, c, rfl, (OwL.rws key_len h.own (i := 0) rfl rfl).1⟩
theorem TgO.key (h : TgO w0 w vb vr ks X) (hn : ks.length ≤ 1000) {q : Kk} {y : Nat} (hy : Has w y 88 #[.int .i64 q.1, .int .i64 q.2]) :
    ∃ v w5, (Builtin.append_ #[86, 86] 86 #[vb, .slice (some ⟨y, 0, none⟩) 1 1]).run Try.prog w = .ok v w5 ∧ TgO w0 w5 v vr (ks ++ [q]) X := by
  obtain ⟨v, w5, hr, ho, hb, _, _⟩ := h.own.app (i := 0) rfl (t := 86) (ty := 86) Try.underlying86 infoBond rfl (Nat.zero_lt_succ _) (by decide) (keyC q) rfl (ad := ⟨y, 0, none⟩) (fun j u hu => by
    rw [addr_off, Nat.zero_add, hy.cell]
    exact (List.getElem?_toArray (xs := keyC q) (i := j)).trans hu) (fun u hu => by simp [keyC] at hu; rcases hu with rfl | rfl <;> rfl) (by simp only; omega) h.bel (Nat.le_refl _) h.bel.size
  refine ⟨v, w5, hr, ?_, hb⟩
  have e : (tgL vb vr ks X).set 0 ⟨88, 2, v, ks.length + 1, ks.flatMap keyC ++ keyC q⟩ = tgL v vr (ks ++ [q]) X := by
    unfold tgL
    rw [List.set_cons_zero, List.flatMap_append, List.length_append]; rfl
  rw [← e]; exact ho
theorem TgO.row (h : TgO w0 w vb vr ks X) (hn : X.length ≤ 1000) {y : Nat} (hy : Has w y 40 #[.slice none 0 0]) :
    ∃ v w5, (Builtin.append_ #[68, 68] 68 #[vr, .slice (some ⟨y, 0, none⟩) 1 1]).run Try.prog w = .ok v w5 ∧ TgO w0 w5 vb v ks (X ++ [(.slice none 0 0, [])]) := by
  obtain ⟨v, w5, hr, ho, hb, _, _⟩ := h.own.app (i := 1) rfl (t := 68) (ty := 68) Try.underlying68 infoInts rfl (Nat.zero_lt_succ _) (by decide) [.slice none 0 0] rfl (ad := ⟨y, 0, none⟩) (fun j u hu => by
    rw [addr_off, Nat.zero_add, hy.cell]
    exact (List.getElem?_toArray (xs := [Value.slice none 0 0]) (i := j)).trans hu) (fun u hu => by simp at hu; rcases hu with rfl; rfl) (by simp only; omega) h.bel (Nat.le_refl _) h.bel.size
  refine ⟨v, w5, hr, ?_, hb⟩
  have e : (tgL vb vr ks X).set 1 ⟨40, 1, v, X.length + 1, X.map (·.1) ++ [.slice none 0 0]⟩ ++ [nilOb 3 1] = tgL vb v ks (X ++ [(.slice none 0 0, [])]) := by
    unfold tgL
    rw [List.set_cons_succ, List.set_cons_zero, List.map_append, List.map_append, List.length_append]; rfl
  rw [← e]; exact ho.snoc _ _
/-- a row of places, as it lies among the rows -/
theorem TgO.get (h : TgO w0 w vb vr ks X) {t : Nat} {x : Inr} (hx : X[t]? = some x) : ∃ g c, vr = .slice (some ⟨g, 0, none⟩) X.length c ∧ w.cell? ⟨g, t, none⟩ = some x.1 ∧ w.frozen? ⟨g, t, none⟩ = false ∧ w0.heap.size ≤ g := by
  obtain ⟨a, c, e, ha, hs⟩ := h.own.form (i := 1) rfl
  have e : vr = .slice a X.length c := e
  have ht := (List.getElem?_eq_some_iff.1 hx).1
  cases a with
  | none => have := (ha rfl).1; simp at this; subst this; simp at hx
  | some ad =>
    obtain ⟨g, rfl⟩ := hs ad rfl
    subst e
    have ho := h.own.own 1 _ rfl
    refine ⟨g, c, rfl, ?_, World.ownsRow.frozenAt ho t, (h.own.ge (i := 1) rfl).1⟩
    rw [World.ownsRow.cellAt ho t (by simpa using ht)]
    show (X.map (·.1))[t]? = _
    rw [List.getElem?_map, hx]; rfl
theorem TgO.place (h : TgO w0 w vb vr ks X) {t k : Nat} {x : Inr} (hx : X[t]? = some x) (hn : x.2.length ≤ 1000) {y : Nat} (hy : Has w y 3 #[.int .i64 (k : Int)]) {g c : Nat} (hvr : vr = .slice (some ⟨g, 0, none⟩) X.length c) :
    ∃ a8 c8 w5, (Builtin.append_ #[40, 40] 40 #[x.1, .slice (some ⟨y, 0, none⟩) 1 1]).run Try.prog w = .ok (.slice a8 (x.2.length + 1) c8) w5 ∧ w5.cell? ⟨g, t, none⟩ = some x.1 ∧ w5.frozen? ⟨g, t, none⟩ = false ∧ TgO w0 (w5.setCell ⟨g, t, none⟩ (.slice a8 (x.2.length + 1) c8)) vb vr ks (X.set t (.slice a8 (x.2.length + 1) c8, x.2 ++ [k])) := by
  have ht := (List.getElem?_eq_some_iff.1 hx).1
  have hL : (tgL vb vr ks X)[t + 2]? = some (inOb x) := by
    show (X.map inOb)[t]? = _
    rw [List.getElem?_map, hx]; rfl
  obtain ⟨v, w5, hr, ho, hb, _, hform⟩ := h.own.app hL (t := 40) (ty := 40) Try.underlying40 infoInt rfl (Nat.zero_lt_succ _) (by decide) [.int .i64 (k : Int)] rfl (ad := ⟨y, 0, none⟩) (fun j u hu => by
    rw [addr_off, Nat.zero_add, hy.cell]
    exact (List.getElem?_toArray (xs := [Value.int .i64 (k : Int)]) (i := j)).trans hu) (fun u hu => by simp at hu; rcases hu with rfl; rfl) (by show x.2.length ≤ _; omega) h.bel (Nat.le_refl _) h.bel.size
  subst hvr
  obtain ⟨a8, c8, hv⟩ := hform
  have hv : v = .slice a8 (x.2.length + 1) c8 := hv
  subst hv
  have h1 := ho.own 1 ⟨40, 1, .slice (some ⟨g, 0, none⟩) X.length c, X.length, X.map (·.1)⟩ (by rw [List.getElem?_set_ne (by omega)]; rfl)
  have hs := ho.store (i := 1) (T := 40) (z := 1) (n := X.length) (cap := c) (g := g) (xs := X.map (·.1)) (by rw [List.getElem?_set_ne (by omega)]; rfl) t (.slice a8 (x.2.length + 1) c8)
  refine ⟨a8, c8, w5, hr, ?_, World.ownsRow.frozenAt h1 t, ?_, hb.setCell (ho.ge (i := 1) (T := 40) (z := 1) (n := X.length) (cap := c) (g := g) (xs := X.map (·.1)) (by rw [List.getElem?_set_ne (by omega)]; rfl)).1 _⟩
  · rw [World.ownsRow.cellAt h1 t (by simpa using ht)]
    show (X.map (·.1))[t]? = _
    rw [List.getElem?_map, hx]; rfl
  · have e : ((tgL vb (.slice (some ⟨g, 0, none⟩) X.length c) ks X).set (t + 2) ⟨3, 1, .slice a8 (x.2.length + 1) c8, x.2.length + 1, x.2.map natV ++ [.int .i64 (k : Int)]⟩).set 1 ⟨40, 1, .slice (some ⟨g, 0, none⟩) X.length c, X.length, (X.map (·.1)).set t (.slice a8 (x.2.length + 1) c8)⟩ = tgL vb (.slice (some ⟨g, 0, none⟩) X.length c) ks (X.set t (.slice a8 (x.2.length + 1) c8, x.2 ++ [k])) := by
      unfold tgL
      rw [List.set_cons_succ, List.set_cons_succ, List.set_cons_succ, List.set_cons_zero, List.map_set, List.map_set, List.length_set]
      unfold inOb natV
      simp
    rw [← e]; exact hs
end
/-- behind k lines -/
structure TgS (w0 w : World) (vb vr : Value) (K : Nat → Kk) (k : Nat) (X : List Inr) : Prop where
  o : TgO w0 w vb vr (keysTo K k) X
  rows : X.map (·.2) = groups K k
theorem TgS.len {w0 w : World} {vb vr : Value} {K : Nat → Kk} {k : Nat} {X : List Inr} (h : TgS w0 w vb vr K k X) : X.length = (keysTo K k).length := by
  have := congrArg List.length h.rows
  rw [List.length_map, groups_len] at this; exact this
/-- what together answers -/
def TogR (w : World) (K : Nat → Kk) (n : Nat) (e : Ending) (w' : World) : Prop := ∃ a c X, e = .returned (.slice a X.length c) ∧ X.map NsX.l = groups K n ∧ RowsA w' a X ∧ Below w.heap.size w w'
theorem TgS.done {w0 w : World} {vb vr : Value} {K : Nat → Kk} {k : Nat} {X : List Inr} (h : TgS w0 w vb vr K k X) : TogR w0 K k (.returned vr) w := by
  obtain ⟨a, c, e, _, _⟩ := h.o.own.form (i := 1) rfl
  have e : vr = .slice a X.length c := e
  have hX : ∃ Y : List NsX, Y.map NsX.l = X.map (·.2) ∧ Y.map NsX.val = X.map (·.1) ∧ ∀ y ∈ Y, NsA w y.a y.l := by
    have key : ∀ Z : List Inr, (∀ z ∈ Z, z ∈ X) → ∃ Y : List NsX, Y.map NsX.l = Z.map (·.2) ∧ Y.map NsX.val = Z.map (·.1) ∧ ∀ y ∈ Y, NsA w y.a y.l := by
      intro Z
      induction Z with
      | nil => intro _; exact ⟨[], rfl, rfl, fun y hy => by cases hy⟩
      | cons z Z ih =>
        intro hZ
        obtain ⟨Y, e1, e2, e3⟩ := ih fun u hu => hZ u (by simp [hu])
        obtain ⟨t, ht⟩ := List.getElem?_of_mem (hZ z (by simp))
        have hL : (tgL vb vr (keysTo K k) X)[t + 2]? = some (inOb z) := by
          show (X.map inOb)[t]? = _
          rw [List.getElem?_map, ht]; rfl
        obtain ⟨a2, c2, e4, _⟩ := h.o.own.form hL
        obtain ⟨v, l⟩ := z
        have e4 : v = .slice a2 l.length c2 := e4
        subst e4
        have hR := (OwL.rws (T := 3) (n := l.length) (cap := c2) (a := a2) nat_len h.o.own (i := t + 2) (l := l) (by rw [hL, nat_flat]; rfl) rfl).1
        refine ⟨⟨a2, c2, l⟩ :: Y, by simp [e1], by simp [e2, NsX.val], fun y hy => ?_⟩
        rcases List.mem_cons.1 hy with rfl | hy
        · exact hR
        · exact e3 y hy
    exact key X fun z hz => hz
  obtain ⟨Y, e1, e2, e3⟩ := hX
  have hl : Y.length = X.length := by simpa using congrArg List.length e1
  refine ⟨a, c, Y, by rw [e, hl], by rw [e1, h.rows], ⟨?_, e3⟩, h.o.bel⟩
  subst e
  have hfl : Y.flatMap NsX.cells = X.map (·.1) := by
    rw [← e2]
    clear e2 e1 e3 hl
    induction Y with
    | nil => rfl
    | cons y Y ih => rw [List.flatMap_cons, ih]; rfl
  exact (OwL.rws (T := 40) (n := X.length) (cap := c) (a := a) (c := NsX.cells) (l := Y) (fun _ => rfl) h.o.own (i := 1) (by rw [hfl]; rfl) hl).1
end Go.Proofs.Ytjmgncjadfhmcaa
