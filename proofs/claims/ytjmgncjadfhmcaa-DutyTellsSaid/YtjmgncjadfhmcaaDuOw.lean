/- Several owned rows side by side. -/
import Derived.Maps.AppendAt
import Derived.Test.YtjmgncjadfhmcaaBoRun
namespace Go.Proofs.Ytjmgncjadfhmcaa
open Go.RowKit

/-- a row of a call's own: its elements' type, their cells, its value, how many, its cells -/
structure Ob where
  T : Nat
  z : Nat
  v : Value
  n : Nat
  xs : List Value
/-- rows of a call's own, no two of which lie in one block -/
structure OwL (w : World) (B : Nat) (L : List Ob) : Prop where
  own : ∀ (i : Nat) x, L[i]? = some x → w.ownsRow B x.T x.z x.v x.n x.xs
  apart : ∀ (i j : Nat) x y, i ≠ j → L[i]? = some x → L[j]? = some y → x.v.ownBlock = none ∨ x.v.ownBlock ≠ y.v.ownBlock
def nilOb (T z : Nat) : Ob := ⟨T, z, .slice none 0 0, 0, []⟩
section
variable {w w' : World} {B : Nat} {L : List Ob}
theorem OwL.up (h : OwL w B L) (q : Below w.heap.size w w') : OwL w' B L :=
  ⟨fun i x hx => (h.own i x hx).kept (grown_of q none) (by cases x.v.ownBlock <;> simp), h.apart⟩
theorem OwL.nils (h : ∀ x ∈ L, ∃ T z, x = nilOb T z) : OwL w B L := by
  refine ⟨fun i x hx => ?_, fun i j x y _ hx _ => ?_⟩
  · obtain ⟨T, z, rfl⟩ := h x (List.mem_of_getElem? hx)
    exact World.ownsRow_nil _ _ _ _
  · obtain ⟨T, z, rfl⟩ := h x (List.mem_of_getElem? hx)
    exact .inl rfl
theorem OwL.snoc (h : OwL w B L) (T z : Nat) : OwL w B (L ++ [nilOb T z]) := by
  have key : ∀ i x, (L ++ [nilOb T z])[i]? = some x → (i < L.length ∧ L[i]? = some x) ∨ x = nilOb T z := fun i x hx => by
    by_cases q : i < L.length
    · rw [List.getElem?_append_left q] at hx; exact .inl ⟨q, hx⟩
    · rw [List.getElem?_append_right (by omega)] at hx
      match hk : i - L.length, hx with
      | 0, hx => simp at hx; exact .inr hx.symm
      | k + 1, hx => simp at hx
  refine ⟨fun i x hx => ?_, fun i j x y hij hx hy => ?_⟩
  · rcases key i x hx with ⟨_, h1⟩ | rfl
    · exact h.own i x h1
    · exact World.ownsRow_nil _ _ _ _
  · rcases key i x hx with ⟨_, h1⟩ | rfl
    · rcases key j y hy with ⟨_, h2⟩ | rfl
      · exact h.apart i j x y hij h1 h2
      · cases q : x.v.ownBlock with
        | none => exact .inl rfl
        | some g => exact .inr (by simp [nilOb, Value.ownBlock])
    · exact .inl rfl
theorem set_cases {α : Type} {l : List α} {i j : Nat} {a x : α} (h : (l.set i a)[j]? = some x) : (i = j ∧ x = a) ∨ (i ≠ j ∧ l[j]? = some x) := by
  rw [List.getElem?_set] at h
  by_cases q : i = j
  · subst q
    rw [if_pos rfl] at h
    split at h
    · exact .inl ⟨rfl, (Option.some.inj h).symm⟩
    · cases h
  · rw [if_neg q] at h; exact .inr ⟨q, h⟩
/-- one row turned, the others as they were -/
theorem OwL.turn (h : OwL w B L) {i : Nat} {x y : Ob} (hx : L[i]? = some x) (hy : w'.ownsRow B y.T y.z y.v y.n y.xs) (hg : w.grownBy w' x.v.ownBlock) (ha : y.v.ownBlock = x.v.ownBlock ∨ y.v.ownBlock = some w.heap.size) : OwL w' B (L.set i y) := by
  have hne : ∀ j u, i ≠ j → L[j]? = some u → u.v.ownBlock = none ∨ u.v.ownBlock ≠ x.v.ownBlock := fun j u hij hu => by
    rcases h.apart j i u x (Ne.symm hij) hu hx with q | q
    · exact .inl q
    · exact .inr q
  have hny : ∀ j u, i ≠ j → L[j]? = some u → u.v.ownBlock = none ∨ u.v.ownBlock ≠ y.v.ownBlock := fun j u hij hu => by
    rcases ha with e | e
    · rw [e]; exact hne j u hij hu
    · cases q : u.v.ownBlock with
      | none => exact .inl rfl
      | some g =>
        refine .inr fun z => ?_
        rw [e] at z
        have := ((h.own j u hu).lt g q).2
        injection z with z
        omega
  refine ⟨fun j u hu => ?_, fun j k u u2 hjk hu hu2 => ?_⟩
  · rcases set_cases hu with ⟨_, rfl⟩ | ⟨q, hu⟩
    · exact hy
    · exact (h.own j u hu).kept hg (hne j u q hu)
  · rcases set_cases hu with ⟨q1, rfl⟩ | ⟨q1, hu⟩
    · rcases set_cases hu2 with ⟨q2, rfl⟩ | ⟨q2, hu2⟩
      · exact absurd (q1.symm.trans q2) hjk
      · rcases hny k u2 q2 hu2 with z | z
        · cases q : u.v.ownBlock with
          | none => exact .inl rfl
          | some g => exact .inr (by rw [z]; simp)
        · exact .inr (Ne.symm z)
    · rcases set_cases hu2 with ⟨q2, e2⟩ | ⟨q2, hu2⟩
      · rw [e2]; exact hny j u q1 hu
      · exact h.apart j k u u2 hjk hu hu2
/-- one more at the end of one of them -/
theorem OwL.app {P : Program} (h : OwL w B L) {i : Nat} {x : Ob} (hx : L[i]? = some x) {t ty : TypeId} {Z : Value} {bytes : Nat} (ht : P.underlying t = some (.slice x.T)) (hinf : (P.info? x.T).map (fun i => (i.zero, i.size, i.bytes)) = some (some Z, x.z, bytes)) (hZ : Z.cells.size = x.z) (hz : 0 < x.z) (hby : bytes ≤ 100)
    (news : List Value) (hl : news.length = x.z) {ad : Addr} (hnews : ∀ j u, news[j]? = some u → w.cell? (ad.add j) = some u) (h1 : ∀ u ∈ news, u.oneCell' = true) (hn : x.n ≤ 1000000) {w0 : World} (hb : Below w0.heap.size w0 w) (hB0 : w0.heap.size ≤ B) (hB : B ≤ w.heap.size) :
    ∃ v' w', (Builtin.append_ #[t, t] ty #[x.v, .slice (some ad) 1 1]).run P w = .ok v' w' ∧ OwL w' B (L.set i ⟨x.T, x.z, v', x.n + 1, x.xs ++ news⟩) ∧ Below w0.heap.size w0 w' ∧ w.heap.size ≤ w'.heap.size ∧ (∃ a c, v' = .slice a (x.n + 1) c) := by
  obtain ⟨inf, hi, hz0, hz1, hz2⟩ := info_parts hinf
  obtain ⟨v', w', hr, ho, hg, _, hat⟩ := run_append_own_at (P := P) w B t ty x.T inf Z x.z bytes ht hi hz0 hz1 hz2 hZ hz x.v x.n x.xs (h.own i x hx) ad 1 1 news (by rw [hl, Nat.one_mul]) hnews h1 (by unfold maxLen; omega)
    (Nat.le_trans (Nat.mul_le_mul (show x.n + 1 ≤ 1000001 by omega) hby) (by decide)) hB
  refine ⟨v', w', hr, h.turn hx ho hg hat, hb.grown hg hb.size (fun g hg' => Nat.le_trans hB0 ((h.own i x hx).lt g hg').1), hg.size, own_formb ho⟩
/-- one more at the end of one of them, and what stays -/
theorem OwL.app2 {P : Program} (h : OwL w B L) {i : Nat} {x : Ob} (hx : L[i]? = some x) {t ty : TypeId} {Z : Value} {bytes : Nat} (ht : P.underlying t = some (.slice x.T)) (hinf : (P.info? x.T).map (fun i => (i.zero, i.size, i.bytes)) = some (some Z, x.z, bytes)) (hZ : Z.cells.size = x.z) (hz : 0 < x.z) (hby : bytes ≤ 100)
    (news : List Value) (hl : news.length = x.z) {ad : Addr} (hnews : ∀ j u, news[j]? = some u → w.cell? (ad.add j) = some u) (h1 : ∀ u ∈ news, u.oneCell' = true) (hn : x.n ≤ 1000000) {w0 : World} (hb : Below w0.heap.size w0 w) (hB0 : w0.heap.size ≤ B) (hB : B ≤ w.heap.size) :
    ∃ v' w', (Builtin.append_ #[t, t] ty #[x.v, .slice (some ad) 1 1]).run P w = .ok v' w' ∧ OwL w' B (L.set i ⟨x.T, x.z, v', x.n + 1, x.xs ++ news⟩) ∧ Below w0.heap.size w0 w' ∧ w.heap.size ≤ w'.heap.size ∧ (∃ a c, v' = .slice a (x.n + 1) c) ∧ w.grownBy w' x.v.ownBlock := by
  obtain ⟨inf, hi, hz0, hz1, hz2⟩ := info_parts hinf
  obtain ⟨v', w', hr, ho, hg, _, hat⟩ := run_append_own_at (P := P) w B t ty x.T inf Z x.z bytes ht hi hz0 hz1 hz2 hZ hz x.v x.n x.xs (h.own i x hx) ad 1 1 news (by rw [hl, Nat.one_mul]) hnews h1 (by unfold maxLen; omega)
    (Nat.le_trans (Nat.mul_le_mul (show x.n + 1 ≤ 1000001 by omega) hby) (by decide)) hB
  refine ⟨v', w', hr, h.turn hx ho hg hat, hb.grown hg hb.size (fun g hg' => Nat.le_trans hB0 ((h.own i x hx).lt g hg').1), hg.size, own_formb ho, hg⟩
/-- a store into one of them -/
theorem OwL.store (h : OwL w B L) {i g n cap T z : Nat} {xs : List Value} (hx : L[i]? = some ⟨T, z, .slice (some ⟨g, 0, none⟩) n cap, n, xs⟩) (j : Nat) (u : Value) : OwL (w.setCell ⟨g, j, none⟩ u) B (L.set i ⟨T, z, .slice (some ⟨g, 0, none⟩) n cap, n, xs.set j u⟩) := by
  obtain ⟨h1, h2⟩ := World.ownsRow.stored (h.own i _ hx) j u
  exact h.turn hx h1 (by exact h2) (.inl rfl)
theorem OwL.ge (h : OwL w B L) {i g n cap T z : Nat} {xs : List Value} (hx : L[i]? = some ⟨T, z, .slice (some ⟨g, 0, none⟩) n cap, n, xs⟩) : B ≤ g ∧ g < w.heap.size := (h.own i _ hx).lt g rfl
/-- what such a row bears, as things that lie in a row -/
theorem OwL.rws {α : Type} {c : α → List Value} {z : Nat} (hz : ∀ x, (c x).length = z) (h : OwL w B L) {i n cap T : Nat} {a : Option Addr} {l : List α} (hx : L[i]? = some ⟨T, z, .slice a n cap, n, l.flatMap c⟩) (hl : l.length = n) : Rws c z w a l ∧ n ≤ cap := own_rws hz (h.own i _ hx) hl
theorem OwL.form (h : OwL w B L) {i : Nat} {x : Ob} (hx : L[i]? = some x) : ∃ a c, x.v = .slice a x.n c ∧ (a = none → x.n = 0 ∧ c = 0) ∧ (∀ ad, a = some ad → ∃ g, ad = ⟨g, 0, none⟩) := by
  rcases (h.own i x hx).2 with ⟨e1, e2⟩ | ⟨g, cap, cur, e, _⟩
  · exact ⟨none, 0, by rw [e1, e2], fun _ => ⟨e2, rfl⟩, fun ad e => by cases e⟩
  · exact ⟨_, cap, e, ⟨fun e => (by cases e), fun ad e => ⟨g, (Option.some.inj e).symm⟩⟩⟩
theorem OwL.sub (h : OwL w B L) {L' : List Ob} (f : Nat → Nat) (hf : ∀ i j, f i = f j → i = j) (hs : ∀ i x, L'[i]? = some x → L[f i]? = some x) : OwL w B L' :=
  ⟨fun i x hx => h.own _ x (hs i x hx), fun i j x y hij hx hy => h.apart _ _ x y (fun e => hij (hf _ _ e)) (hs i x hx) (hs j y hy)⟩
end
end Go.Proofs.Ytjmgncjadfhmcaa
