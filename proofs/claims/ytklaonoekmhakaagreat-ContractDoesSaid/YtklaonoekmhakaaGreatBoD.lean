/- An append in a region, and in a walk, by what it gives. -/
import Derived.Deep.RegionLaw
import Derived.Laws.Rows
import Derived.Maps.AppendAt
import Derived.Lib.AppendZeros
import Derived.Laws.OwnMore
import Derived.Test.YtklaonoekmhakaaGreatD
import Derived.Test.YtklaonoekmhakaaGreatBoA
import Derived.Test.YtklaonoekmhakaaGreatBoMath
import Derived.Test.YtklaonoekmhakaaGreatI
namespace Go.Proofs.YtklaonoekmhakaaGreat
open Go.RowKit

section
variable {P : Program} {ops : Array Oper} {o : Oper} {a : Act} {w : World} {K : Act → World → Prop} {Q : Exit → Act → World → Prop} {E : Prop}
/-- an append in a region, by what it gives -/
theorem step_run (hgd : o.guard = none) (s x : Operand) (t : TypeId) (ho : o.op = .call { callee := .builtin .append, args := #[s, x], argTypes := #[t, t] }) (vs vx : Value) (hs : a.eval s = vs) (hx : a.eval x = vx)
    {S : Value → World → Prop} (hr : ∃ v' w', (Builtin.append_ #[t, t] o.type #[vs, vx]).run P w = .ok v' w' ∧ S v' w') (h : ∀ v' w', S v' w' → K (a.put o.dst v') w') :
    if Region.wanted o (yielded ops a.tmps) = true then Oper.wp P o a w K Q else E := by
  have hw : Region.wanted o (yielded ops a.tmps) = true := by simp [Region.wanted, hgd]
  rw [if_pos hw]
  obtain ⟨v', w', hr, hS⟩ := hr
  exact Lib.wp_append_run w s x t t ho vs vx hs hx v' w' hr (h v' w' hS)
end
/-- an append in a walk, by what it gives -/
theorem wpList_run {P : Program} {w : World} {ops : Array Oper} {rest : List Oper} {o : Oper} {a : Act} {Q : Exit → Act → World → Prop} (hgd : o.guard = none) (s x : Operand) (t : TypeId)
    (ho : o.op = .call { callee := .builtin .append, args := #[s, x], argTypes := #[t, t] }) (vs vx : Value) (hs : a.eval s = vs) (hx : a.eval x = vx)
    {S : Value → World → Prop} (hr : ∃ v' w', (Builtin.append_ #[t, t] o.type #[vs, vx]).run P w = .ok v' w' ∧ S v' w') (h : ∀ v' w', S v' w' → wpList P ops Q rest (a.put o.dst v') w') : wpList P ops Q (o :: rest) a w := by
  obtain ⟨v', w', hr, hS⟩ := hr
  exact wpList_plain hgd fun _ hK => Lib.wp_append_run w s x t t ho vs vx hs hx v' w' hr (hK _ _ (h v' w' hS))
theorem addr_off (b off k : Nat) : (⟨b, off, none⟩ : Addr).add k = ⟨b, off + k, none⟩ := by simp [Addr.add]
end Go.Proofs.YtklaonoekmhakaaGreat

namespace Go.Proofs.YtklaonoekmhakaaGreat
open Go.RowKit


theorem infoItem : (Tryz.prog.info? 72).map (fun i => (i.zero, i.size, i.bytes)) = some (some (.agg #[.int .i64 0, .int .i64 0, .int .i64 0, .int .i64 0]), 4, 32) := by kernel_rfl
/-- items that were copied -/
def ClnR (w : World) (I : List Im) (v : Value) (w' : World) : Prop := ∃ a cap, v = .slice a I.length cap ∧ ItA w' a I ∧ Below w.heap.size w w'
/-- an append of items to an empty row -/
theorem app_items (ty : TypeId) {w W : World} {g : Nat} {a : Option Addr} {I : List Im} {n cap : Nat} (hn : I.length = n) (h2 : n ≤ 1000) (hI : ItA W a I) (ha : a = none → cap = 0) (hb : Below w.heap.size w W) (hg : Has W g 72 #[]) (hgs : w.heap.size ≤ g) :
    ∃ v' w', (Builtin.append_ #[22, 22] ty #[.slice (some ⟨g, 0, none⟩) 0 0, .slice a n cap]).run Tryz.prog W = .ok v' w' ∧ ClnR w I v' w' ∧ W.grownBy w' (some g) := by
  obtain ⟨i, hi, hz0, hz1, hz2⟩ := info_parts infoItem
  have hown : W.ownsRow w.heap.size 72 4 (.slice (some ⟨g, 0, none⟩) 0 0) 0 [] := ⟨rfl, .inr ⟨g, 0, #[], rfl, hgs, hg, Nat.le_refl _, by unfold maxLen; omega, rfl, rfl⟩⟩
  cases a with
  | none =>
    have hI0 : I = [] := by
      rcases hI with h | ⟨b, o, e, _⟩
      · exact h
      · cases e
    subst hI0
    have hc := ha rfl
    subst hc
    obtain rfl : n = 0 := hn.symm
    refine ⟨.slice (some ⟨g, 0, none⟩) 0 0, W, ?_, ⟨_, _, rfl, .inl rfl, hb⟩, ⟨rfl, rfl, rfl, Nat.le_refl _, fun _ _ _ => rfl⟩⟩
    simp [Builtin.append_, run_underlying Tryz.underlying22, sizeOf, typeInfo, hi, Builtin.lenOf, Builtin.firstCells, loadCells, loadCellsFrom, storeCells]
  | some ad =>
    have hnews : ∀ (j : Nat) (u : Value), (I.flatMap Im.cells)[j]? = some u → W.cell? (ad.add j) = some u := fun j u hj => by
      have hI2 := hI
      rcases hI with h | ⟨b, o, e, _⟩
      · rw [h] at hj; simp at hj
      · obtain rfl : ad = ⟨b, o, none⟩ := Option.some.inj e
        rw [addr_off]; exact hI2.flat im_len j u hj
    obtain ⟨v', w5, hr, ho, hg5, _⟩ := run_append_own (P := Tryz.prog) W w.heap.size 22 ty 72 i _ 4 32 Tryz.underlying22 hi hz0 hz1 hz2 rfl (by decide) _ 0 [] hown ad n cap (I.flatMap Im.cells) (by rw [flat_len im_len, hn]) hnews (im_one I) (by unfold maxLen; omega) (by omega) hb.size
    rw [List.nil_append, Nat.zero_add] at ho
    obtain ⟨a', c', rfl⟩ := own_formb ho
    refine ⟨_, _, hr, ⟨a', c', by rw [hn], (own_rws im_len ho hn).1, hb.grown hg5 hb.size (fun j hj => by injection hj with hj; have hj : g = j := hj; omega)⟩, hg5⟩
set_option maxRecDepth 100000 in
set_option maxHeartbeats 2000000 in
theorem iclone_any (a : Option Addr) (n cap : Nat) (I : List Im) (w : World) (hn : I.length = n) (h2 : n ≤ 1000) (hI : ItA w a I) (ha : a = none → cap = 0) :
    Calls Tryz.prog 64 #[.slice a n cap] w fun e w' => ∃ v, e = .returned v ∧ ClnR w I v w' := by
  have en := Lib.run_eql_slice_nil (P := Tryz.prog) w 22 72 a n cap 0 0 Tryz.underlying22
  cases a with
  | none =>
    have hI0 : I = [] := by
      rcases hI with h | ⟨b, o, e, _⟩
      · exact h
      · cases e
    subst hI0
    obtain rfl : n = 0 := hn.symm
    clear hI ha hn
    go_enter Tryz.func64, Tryz.ntmps64
    go_wp2_with fail
    go_ret
    exact ⟨_, rfl, none, 0, rfl, .inl rfl, Below.refl _ _⟩
  | some ad =>
    obtain ⟨W1, hW1⟩ : ∃ W1, W1 = w.alloc (.cells #[] 72) := ⟨_, rfl⟩
    have hb1 : Below w.heap.size w W1 := by rw [hW1]; exact boxed _ _
    obtain ⟨v', w5, hr, hcl, _⟩ := app_items 22 hn h2 (hI.up hb1) ha hb1 (by rw [hW1]; exact Has.fresh _ _ _) (Nat.le_refl _)
    have HR := Lib.hid hr
    have HC := Lib.hid hcl
    have HW1 := Lib.hid hW1
    clear hI ha hn hb1 hr hcl hW1
    go_enter Tryz.func64, Tryz.ntmps64
    go_wp2_with (first | (rw [← HW1.out]; refine wpList_run rfl (.tmp 5) (.tmp 6) 22 rfl _ _ rfl rfl (S := fun u q => u = v' ∧ q = w5) ⟨v', w5, HR.out, rfl, rfl⟩ ?_; rintro u q ⟨rfl, rfl⟩) | fail)
    go_ret
    exact ⟨_, rfl, HC.out⟩

theorem Rws.take {α : Type} {c : α → List Value} {z : Nat} {w : World} {a : Option Addr} {l : List α} (h : Rws c z w a l) (k : Nat) : Rws c z w a (l.take k) := by
  rcases h with h | ⟨b, o, e, h⟩
  · exact .inl (by rw [h]; simp)
  · refine .inr ⟨b, o, e, fun i x hx j v hv => h i x ?_ j v hv⟩
    rw [List.getElem?_take] at hx
    split at hx
    · exact hx
    · cases hx
theorem Rws.drop {α : Type} {c : α → List Value} {z : Nat} {w : World} {b o : Nat} {l : List α} (h : Rws c z w (some ⟨b, o, none⟩) l) (k : Nat) : Rws c z w (some ⟨b, o + k * z, none⟩) (l.drop k) := by
  rcases h with h | ⟨b', o', e, h⟩
  · exact .inl (by rw [h]; simp)
  · injection e with e
    injection e with e1 e2
    subst e1; subst e2
    refine .inr ⟨_, _, rfl, fun i x hx j v hv => ?_⟩
    rw [List.getElem?_drop] at hx
    have := h _ x hx j v hv
    rw [Nat.add_mul, ← Nat.add_assoc] at this; exact this
/-- what put leaves -/
def PutR (w : World) (R : List (Int × Int)) (k : Nat) (d n : Int) (v : Value) (w' : World) : Prop := ∃ a cap, v = .slice a (R.length + 1) cap ∧ PrA w' a (R.take k ++ (d, n) :: R.drop k) ∧ R.length + 1 ≤ cap ∧ Below w.heap.size w w'
end Go.Proofs.YtklaonoekmhakaaGreat

namespace Go.Proofs.YtklaonoekmhakaaGreat
open Go.RowKit

/-- a row of a call's own: its elements' type, their cells, its value, how many, its cells -/
structure Ob where
  T : Nat
  z : Nat
  v : Value
  n : Nat
  xs : List Value
/-- rows of a call's own, no two of which lie in one block -/
structure OwL (w : World) (B : Nat) (L : List Ob) : Prop where
  own : ∀ (i : Nat) x, L[i]? = some x → w.ownsRow B x.T x.z x.v x.n x.xs
  apart : ∀ (i j : Nat) x y, i ≠ j → L[i]? = some x → L[j]? = some y → x.v.ownBlock = none ∨ x.v.ownBlock ≠ y.v.ownBlock
def nilOb (T z : Nat) : Ob := ⟨T, z, .slice none 0 0, 0, []⟩
section
variable {w w' : World} {B : Nat} {L : List Ob}
theorem OwL.up (h : OwL w B L) (q : Below w.heap.size w w') : OwL w' B L :=
  ⟨fun i x hx => (h.own i x hx).kept (grown_of q none) (by cases x.v.ownBlock <;> simp), h.apart⟩
theorem OwL.nils (h : ∀ x ∈ L, ∃ T z, x = nilOb T z) : OwL w B L := by
  refine ⟨fun i x hx => ?_, fun i j x y _ hx _ => ?_⟩
  · obtain ⟨T, z, rfl⟩ := h x (List.mem_of_getElem? hx)
    exact World.ownsRow_nil _ _ _ _
  · obtain ⟨T, z, rfl⟩ := h x (List.mem_of_getElem? hx)
    exact .inl rfl
theorem OwL.snoc (h : OwL w B L) (T z : Nat) : OwL w B (L ++ [nilOb T z]) := by
  have key : ∀ i x, (L ++ [nilOb T z])[i]? = some x → (i < L.length ∧ L[i]? = some x) ∨ x = nilOb T z := fun i x hx => by
    by_cases q : i < L.length
    · rw [List.getElem?_append_left q] at hx; exact .inl ⟨q, hx⟩
    · rw [List.getElem?_append_right (by omega)] at hx
      match hk : i - L.length, hx with
      | 0, hx => simp at hx; exact .inr hx.symm
      | k + 1, hx => simp at hx
  refine ⟨fun i x hx => ?_, fun i j x y hij hx hy => ?_⟩
  · rcases key i x hx with ⟨_, h1⟩ | rfl
    · exact h.own i x h1
    · exact World.ownsRow_nil _ _ _ _
  · rcases key i x hx with ⟨_, h1⟩ | rfl
    · rcases key j y hy with ⟨_, h2⟩ | rfl
      · exact h.apart i j x y hij h1 h2
      · cases q : x.v.ownBlock with
        | none => exact .inl rfl
        | some g => exact .inr (by simp [nilOb, Value.ownBlock])
    · exact .inl rfl
theorem set_cases {α : Type} {l : List α} {i j : Nat} {a x : α} (h : (l.set i a)[j]? = some x) : (i = j ∧ x = a) ∨ (i ≠ j ∧ l[j]? = some x) := by
  rw [List.getElem?_set] at h
  by_cases q : i = j
  · subst q
    rw [if_pos rfl] at h
    split at h
    · exact .inl ⟨rfl, (Option.some.inj h).symm⟩
    · cases h
  · rw [if_neg q] at h; exact .inr ⟨q, h⟩
/-- one row turned, the others as they were -/
theorem OwL.turn (h : OwL w B L) {i : Nat} {x y : Ob} (hx : L[i]? = some x) (hy : w'.ownsRow B y.T y.z y.v y.n y.xs) (hg : w.grownBy w' x.v.ownBlock) (ha : y.v.ownBlock = x.v.ownBlock ∨ y.v.ownBlock = some w.heap.size) : OwL w' B (L.set i y) := by
  have hne : ∀ j u, i ≠ j → L[j]? = some u → u.v.ownBlock = none ∨ u.v.ownBlock ≠ x.v.ownBlock := fun j u hij hu => by
    rcases h.apart j i u x (Ne.symm hij) hu hx with q | q
    · exact .inl q
    · exact .inr q
  have hny : ∀ j u, i ≠ j → L[j]? = some u → u.v.ownBlock = none ∨ u.v.ownBlock ≠ y.v.ownBlock := fun j u hij hu => by
    rcases ha with e | e
    · rw [e]; exact hne j u hij hu
    · cases q : u.v.ownBlock with
      | none => exact .inl rfl
      | some g =>
        refine .inr fun z => ?_
        rw [e] at z
        have := ((h.own j u hu).lt g q).2
        injection z with z
        omega
  refine ⟨fun j u hu => ?_, fun j k u u2 hjk hu hu2 => ?_⟩
  · rcases set_cases hu with ⟨_, rfl⟩ | ⟨q, hu⟩
    · exact hy
    · exact (h.own j u hu).kept hg (hne j u q hu)
  · rcases set_cases hu with ⟨q1, rfl⟩ | ⟨q1, hu⟩
    · rcases set_cases hu2 with ⟨q2, rfl⟩ | ⟨q2, hu2⟩
      · exact absurd (q1.symm.trans q2) hjk
      · rcases hny k u2 q2 hu2 with z | z
        · cases q : u.v.ownBlock with
          | none => exact .inl rfl
          | some g => exact .inr (by rw [z]; simp)
        · exact .inr (Ne.symm z)
    · rcases set_cases hu2 with ⟨q2, e2⟩ | ⟨q2, hu2⟩
      · rw [e2]; exact hny j u q1 hu
      · exact h.apart j k u u2 hjk hu hu2
/-- one more at the end of one of them -/
theorem OwL.app {P : Program} (h : OwL w B L) {i : Nat} {x : Ob} (hx : L[i]? = some x) {t ty : TypeId} {Z : Value} {bytes : Nat} (ht : P.underlying t = some (.slice x.T)) (hinf : (P.info? x.T).map (fun i => (i.zero, i.size, i.bytes)) = some (some Z, x.z, bytes)) (hZ : Z.cells.size = x.z) (hz : 0 < x.z) (hby : bytes ≤ 100)
    (news : List Value) (hl : news.length = x.z) {ad : Addr} (hnews : ∀ j u, news[j]? = some u → w.cell? (ad.add j) = some u) (h1 : ∀ u ∈ news, u.oneCell' = true) (hn : x.n ≤ 1000000) {w0 : World} (hb : Below w0.heap.size w0 w) (hB0 : w0.heap.size ≤ B) (hB : B ≤ w.heap.size) :
    ∃ v' w', (Builtin.append_ #[t, t] ty #[x.v, .slice (some ad) 1 1]).run P w = .ok v' w' ∧ OwL w' B (L.set i ⟨x.T, x.z, v', x.n + 1, x.xs ++ news⟩) ∧ Below w0.heap.size w0 w' ∧ w.heap.size ≤ w'.heap.size ∧ (∃ a c, v' = .slice a (x.n + 1) c) := by
  obtain ⟨inf, hi, hz0, hz1, hz2⟩ := info_parts hinf
  obtain ⟨v', w', hr, ho, hg, _, hat⟩ := run_append_own_at (P := P) w B t ty x.T inf Z x.z bytes ht hi hz0 hz1 hz2 hZ hz x.v x.n x.xs (h.own i x hx) ad 1 1 news (by rw [hl, Nat.one_mul]) hnews h1 (by unfold maxLen; omega)
    (Nat.le_trans (Nat.mul_le_mul (show x.n + 1 ≤ 1000001 by omega) hby) (by decide)) hB
  refine ⟨v', w', hr, h.turn hx ho hg hat, hb.grown hg hb.size (fun g hg' => Nat.le_trans hB0 ((h.own i x hx).lt g hg').1), hg.size, own_formb ho⟩
/-- one more at the end of one of them, and what stays -/
theorem OwL.app2 {P : Program} (h : OwL w B L) {i : Nat} {x : Ob} (hx : L[i]? = some x) {t ty : TypeId} {Z : Value} {bytes : Nat} (ht : P.underlying t = some (.slice x.T)) (hinf : (P.info? x.T).map (fun i => (i.zero, i.size, i.bytes)) = some (some Z, x.z, bytes)) (hZ : Z.cells.size = x.z) (hz : 0 < x.z) (hby : bytes ≤ 100)
    (news : List Value) (hl : news.length = x.z) {ad : Addr} (hnews : ∀ j u, news[j]? = some u → w.cell? (ad.add j) = some u) (h1 : ∀ u ∈ news, u.oneCell' = true) (hn : x.n ≤ 1000000) {w0 : World} (hb : Below w0.heap.size w0 w) (hB0 : w0.heap.size ≤ B) (hB : B ≤ w.heap.size) :
    ∃ v' w', (Builtin.append_ #[t, t] ty #[x.v, .slice (some ad) 1 1]).run P w = .ok v' w' ∧ OwL w' B (L.set i ⟨x.T, x.z, v', x.n + 1, x.xs ++ news⟩) ∧ Below w0.heap.size w0 w' ∧ w.heap.size ≤ w'.heap.size ∧ (∃ a c, v' = .slice a (x.n + 1) c) ∧ w.grownBy w' x.v.ownBlock := by
  obtain ⟨inf, hi, hz0, hz1, hz2⟩ := info_parts hinf
  obtain ⟨v', w', hr, ho, hg, _, hat⟩ := run_append_own_at (P := P) w B t ty x.T inf Z x.z bytes ht hi hz0 hz1 hz2 hZ hz x.v x.n x.xs (h.own i x hx) ad 1 1 news (by rw [hl, Nat.one_mul]) hnews h1 (by unfold maxLen; omega)
    (Nat.le_trans (Nat.mul_le_mul (show x.n + 1 ≤ 1000001 by omega) hby) (by decide)) hB
  refine ⟨v', w', hr, h.turn hx ho hg hat, hb.grown hg hb.size (fun g hg' => Nat.le_trans hB0 ((h.own i x hx).lt g hg').1), hg.size, own_formb ho, hg⟩
/-- a store into one of them -/
theorem OwL.store (h : OwL w B L) {i g n cap T z : Nat} {xs : List Value} (hx : L[i]? = some ⟨T, z, .slice (some ⟨g, 0, none⟩) n cap, n, xs⟩) (j : Nat) (u : Value) : OwL (w.setCell ⟨g, j, none⟩ u) B (L.set i ⟨T, z, .slice (some ⟨g, 0, none⟩) n cap, n, xs.set j u⟩) := by
  obtain ⟨h1, h2⟩ := World.ownsRow.stored (h.own i _ hx) j u
  exact h.turn hx h1 (by exact h2) (.inl rfl)
theorem OwL.ge (h : OwL w B L) {i g n cap T z : Nat} {xs : List Value} (hx : L[i]? = some ⟨T, z, .slice (some ⟨g, 0, none⟩) n cap, n, xs⟩) : B ≤ g ∧ g < w.heap.size := (h.own i _ hx).lt g rfl
/-- what such a row bears, as things that lie in a row -/
theorem OwL.rws {α : Type} {c : α → List Value} {z : Nat} (hz : ∀ x, (c x).length = z) (h : OwL w B L) {i n cap T : Nat} {a : Option Addr} {l : List α} (hx : L[i]? = some ⟨T, z, .slice a n cap, n, l.flatMap c⟩) (hl : l.length = n) : Rws c z w a l ∧ n ≤ cap := own_rws hz (h.own i _ hx) hl
theorem OwL.form (h : OwL w B L) {i : Nat} {x : Ob} (hx : L[i]? = some x) : ∃ a c, x.v = .slice a x.n c ∧ (a = none → x.n = 0 ∧ c = 0) ∧ (∀ ad, a = some ad → ∃ g, ad = ⟨g, 0, none⟩) := by
  rcases (h.own i x hx).2 with ⟨e1, e2⟩ | ⟨g, cap, cur, e, _⟩
  · exact ⟨none, 0, by rw [e1, e2], fun _ => ⟨e2, rfl⟩, fun ad e => by cases e⟩
  · exact ⟨_, cap, e, ⟨fun e => (by cases e), fun ad e => ⟨g, (Option.some.inj e).symm⟩⟩⟩
theorem OwL.sub (h : OwL w B L) {L' : List Ob} (f : Nat → Nat) (hf : ∀ i j, f i = f j → i = j) (hs : ∀ i x, L'[i]? = some x → L[f i]? = some x) : OwL w B L' :=
  ⟨fun i x hx => h.own _ x (hs i x hx), fun i j x y hij hx hy => h.apart _ _ x y (fun e => hij (hf _ _ e)) (hs i x hx) (hs j y hy)⟩
end
end Go.Proofs.YtklaonoekmhakaaGreat

namespace Go.Proofs.YtklaonoekmhakaaGreat
open Go.RowKit

def sumD (f : Nat → Int) : List Nat → Int
  | [] => 0
  | x :: l => f x + sumD f l
theorem sumD_append (f : Nat → Int) (l l' : List Nat) : sumD f (l ++ l') = sumD f l + sumD f l' := by
  induction l with
  | nil => simp [sumD]
  | cons x l ih => simp only [List.cons_append, sumD, ih]; omega
theorem range_asc (n : Nat) : (List.range n).Pairwise (· < ·) := List.pairwise_lt_range
section
variable {κ : Type} [DecidableEq κ] {K : Nat → κ} {n : Nat}
/-- the places of one key; the first ones of each key -/
def mems (K : Nat → κ) (n i : Nat) : List Nat := (List.range n).filter fun k => decide (K k = K i)
def isFst (K : Nat → κ) (i : Nat) : Bool := (List.range i).all fun k => decide (K k ≠ K i)
def fsts (K : Nat → κ) (n : Nat) : List Nat := (List.range n).filter (isFst K)
theorem mem_mems {i k : Nat} : k ∈ mems K n i ↔ k < n ∧ K k = K i := by simp [mems]
theorem isFst_iff {i : Nat} : isFst K i = true ↔ ∀ k, k < i → K k ≠ K i := by simp [isFst]
theorem mem_fsts {i : Nat} : i ∈ fsts K n ↔ i < n ∧ ∀ k, k < i → K k ≠ K i := by
  unfold fsts
  rw [List.mem_filter, List.mem_range, isFst_iff]
theorem mems_asc (i : Nat) : (mems K n i).Pairwise (· < ·) := (range_asc n).sublist List.filter_sublist
theorem fsts_asc : (fsts K n).Pairwise (· < ·) := (range_asc n).sublist List.filter_sublist
theorem fst_of : ∀ (a : Nat), ∃ i, i ≤ a ∧ K i = K a ∧ ∀ k, k < i → K k ≠ K i := by
  intro a
  induction a using Nat.strongRecOn with
  | _ a ih =>
    by_cases h : ∀ k, k < a → K k ≠ K a
    · exact ⟨a, Nat.le_refl _, rfl, h⟩
    · obtain ⟨k, hk⟩ : ∃ k, k < a ∧ K k = K a := Classical.byContradiction fun z => h fun k hk e => z ⟨k, hk, e⟩
      obtain ⟨i, h1, h2, h3⟩ := ih k hk.1
      exact ⟨i, by omega, h2.trans hk.2, h3⟩
theorem fst_ex {a : Nat} (h : a < n) : ∃ i ∈ fsts K n, K i = K a ∧ i ≤ a := by
  obtain ⟨i, h1, h2, h3⟩ := fst_of (K := K) a
  exact ⟨i, mem_fsts.2 ⟨by omega, h3⟩, h2, h1⟩
theorem fst_one {i j : Nat} (hi : i ∈ fsts K n) (hj : j ∈ fsts K n) (h : K i = K j) : i = j := by
  have h1 := (mem_fsts.1 hi).2
  have h2 := (mem_fsts.1 hj).2
  rcases Nat.lt_trichotomy i j with q | q | q
  · exact absurd h (h2 i q)
  · exact q
  · exact absurd h.symm (h1 j q)
/-- its first place is the first of its key -/
theorem mems_head {i : Nat} (hi : i ∈ fsts K n) : ∃ t, mems K n i = i :: t := by
  have hm : i ∈ mems K n i := mem_mems.2 ⟨(mem_fsts.1 hi).1, rfl⟩
  have ha := mems_asc (K := K) (n := n) i
  cases hl : mems K n i with
  | nil => rw [hl] at hm; cases hm
  | cons x t =>
    rw [hl] at hm ha
    rcases List.mem_cons.1 hm with e | e
    · exact ⟨t, by rw [e]⟩
    · exfalso
      have hx : x < i := (List.pairwise_cons.1 ha).1 i e
      have hxm : x ∈ mems K n i := by rw [hl]; simp
      exact (mem_fsts.1 hi).2 x hx (mem_mems.1 hxm).2
/-- turned about -/
def turnK (K : Nat → κ) (n : Nat) (k : Nat) : κ := K (n - 1 - k)
end
/-- the least, and the greatest one -/
def minD (f : Nat → Int) (i : Nat) (l : List Nat) : Int := l.foldl (fun a k => min a (f k)) (f i)
def maxD (f : Nat → Int) (i : Nat) (l : List Nat) : Int := l.foldl (fun a k => max a (f k)) (f i)
theorem fold_min (f : Nat → Int) : ∀ (l : List Nat) (a : Int), l.foldl (fun a k => min a (f k)) a ≤ a ∧ (∀ k ∈ l, l.foldl (fun a k => min a (f k)) a ≤ f k) ∧ (l.foldl (fun a k => min a (f k)) a = a ∨ ∃ k ∈ l, l.foldl (fun a k => min a (f k)) a = f k)
  | [], a => ⟨Int.le_refl _, fun k hk => (by cases hk), .inl rfl⟩
  | x :: l, a => by
    obtain ⟨h1, h2, h3⟩ := fold_min f l (min a (f x))
    rw [List.foldl_cons]
    refine ⟨by omega, fun k hk => ?_, ?_⟩
    · rcases List.mem_cons.1 hk with rfl | hk
      · omega
      · exact h2 k hk
    · rcases h3 with h3 | ⟨k, hk, h3⟩
      · by_cases q : a ≤ f x
        · exact .inl (by omega)
        · exact .inr ⟨x, by simp, by omega⟩
      · exact .inr ⟨k, by simp [hk], h3⟩
theorem fold_max (f : Nat → Int) : ∀ (l : List Nat) (a : Int), a ≤ l.foldl (fun a k => max a (f k)) a ∧ (∀ k ∈ l, f k ≤ l.foldl (fun a k => max a (f k)) a) ∧ (l.foldl (fun a k => max a (f k)) a = a ∨ ∃ k ∈ l, l.foldl (fun a k => max a (f k)) a = f k)
  | [], a => ⟨Int.le_refl _, fun k hk => (by cases hk), .inl rfl⟩
  | x :: l, a => by
    obtain ⟨h1, h2, h3⟩ := fold_max f l (max a (f x))
    rw [List.foldl_cons]
    refine ⟨by omega, fun k hk => ?_, ?_⟩
    · rcases List.mem_cons.1 hk with rfl | hk
      · omega
      · exact h2 k hk
    · rcases h3 with h3 | ⟨k, hk, h3⟩
      · by_cases q : f x ≤ a
        · exact .inl (by omega)
        · exact .inr ⟨x, by simp, by omega⟩
      · exact .inr ⟨k, by simp [hk], h3⟩
theorem minD_is {f : Nat → Int} {i : Nat} {l : List Nat} (hi : i ∈ l) : (∀ k ∈ l, minD f i l ≤ f k) ∧ ∃ k ∈ l, minD f i l = f k := by
  obtain ⟨_, h2, h3⟩ := fold_min f l (f i)
  refine ⟨h2, ?_⟩
  rcases h3 with h3 | h3
  · exact ⟨i, hi, h3⟩
  · exact h3
theorem maxD_is {f : Nat → Int} {i : Nat} {l : List Nat} (hi : i ∈ l) : (∀ k ∈ l, f k ≤ maxD f i l) ∧ ∃ k ∈ l, maxD f i l = f k := by
  obtain ⟨_, h2, h3⟩ := fold_max f l (f i)
  refine ⟨h2, ?_⟩
  rcases h3 with h3 | h3
  · exact ⟨i, hi, h3⟩
  · exact h3
end Go.Proofs.YtklaonoekmhakaaGreat

namespace Go.Proofs.YtklaonoekmhakaaGreat
open Go.RowKit

/-- the two cells of what is put -/
def TwoC (y : Nat) (d n : Int) (w : World) : Prop := w.cell? ⟨y, 0, none⟩ = some (.int .i64 d) ∧ w.cell? ⟨y, 1, none⟩ = some (.int .i64 n)
theorem TwoC.up {y : Nat} {d n : Int} {w w' : World} (h : TwoC y d n w) (q : Below w.heap.size w w') : TwoC y d n w' := ⟨kcell q h.1, kcell q h.2⟩
end Go.Proofs.YtklaonoekmhakaaGreat

namespace Go.Proofs.YtklaonoekmhakaaGreat
open Go.RowKit

/-- what Set answers, and leaves -/
def SetR (w : World) (p r : Nat) (S : Bs) (i d n : Int) (e : Ending) (w' : World) : Prop := e = .returned (.int .i64 (setE S i d n)) ∧ Bk w' p r (setS S i d n) ∧ w.grownBy w' (some r)
section
variable {w : World} {p r : Nat} {S : Bs}
/-- an entry's cells -/
theorem pra_at {w : World} {b o : Nat} {R : List (Int × Int)} (h : PrA w (some ⟨b, o, none⟩) R) {j : Nat} {e : Int × Int} (he : R[j]? = some e) : w.cell? ⟨b, o + j * 2, none⟩ = some (.int .i64 e.1) ∧ w.cell? ⟨b, o + j * 2 + 1, none⟩ = some (.int .i64 e.2) := by
  rcases h with z | ⟨b', o', z, hz⟩
  · rw [z] at he; simp at he
  · injection z with z
    injection z with z1 z2
    subst z1; subst z2
    exact ⟨hz j e he 0 _ rfl, hz j e he 1 _ rfl⟩
end
end Go.Proofs.YtklaonoekmhakaaGreat

namespace Go.Proofs.YtklaonoekmhakaaGreat
open Go.RowKit

section
variable {w : World} {p r : Nat} {S : Bs}
def PriR (w : World) (S : Bs) (i d : Int) (e : Ending) (w' : World) : Prop := e = .returned (.tuple #[.int .i64 (priV S i d), .int .i64 (priE S i d)]) ∧ Below w.heap.size w w'
set_option maxRecDepth 100000 in
set_option maxHeartbeats 4000000 in
theorem price_any (i d : Int) (h : Bk w p r S) : Calls Tryz.prog 156 #[.pointer (some ⟨p, 0, none⟩), .int .i64 i, .int .i64 d] w (PriR w S i d) := by
  have hF := h.fine
  have HH := Lib.hid (bhas_any i h)
  unfold PriR priV
  cases h1 : hasB S i with
  | false =>
    have hE : priE S i d = 5 := by unfold priE; rw [if_pos h1]
    rw [h1] at HH
    rw [hE, if_neg (by omega)]
    clear h h1 hE hF
    go_enter Tryz.func156, Tryz.ntmps156
    go_wp2_with fail
    refine HH.out.mono ?_
    rintro e w1 ⟨rfl, rfl⟩
    go_wp2_with fail
    go_ret2
    exact ⟨rfl, Below.refl _ _⟩
  | true =>
    rw [h1] at HH
    by_cases h2 : d < 0
    · have hE : priE S i d = 1 := by unfold priE; rw [if_neg (by rw [h1]; simp), if_pos h2]
      rw [hE, if_neg (by omega)]
      clear h h1 hE hF
      go_enter Tryz.func156, Tryz.ntmps156
      go_wp2_with fail
      refine HH.out.mono ?_
      rintro e w1 ⟨rfl, rfl⟩
      go_wp2_with fail
      go_ret2
      exact ⟨rfl, Below.refl _ _⟩
    · have hE : priE S i d = 0 := by unfold priE; rw [if_neg (by rw [h1]; simp), if_neg h2]
      rw [hE, if_pos rfl]
      have hI := hasB_iff.1 h1
      obtain ⟨g, rfl⟩ : ∃ g : Nat, i = g := ⟨i.toNat, by omega⟩
      have hg : g < S.I.length := by omega
      have hfew := hF.few
      obtain ⟨qa, qc, X, hx⟩ := h
      have c1 := hx.c1
      obtain ⟨x, hX, c2⟩ := hx.row hg
      obtain ⟨hP, hcap, hRow⟩ := hx.ok g x hX
      have hrl := hRow.len
      have hmost := hF.most g
      obtain ⟨b, o, ha⟩ : ∃ b o, x.a = some ⟨b, o, none⟩ := by
        rcases hP with z | ⟨b, o, z, _⟩
        · rw [z] at hrl; simp at hrl; omega
        · exact ⟨b, o, z⟩
      rw [ha] at hP c2
      obtain ⟨m, hm⟩ : ∃ m, m = x.R.length := ⟨_, rfl⟩
      have HBeh := Lib.hid (behind_any d x.R (some ⟨b, o, none⟩) x.cap w (by omega) (by omega) hP hRow.asc)
      have HP := Lib.hid hP
      have HR := Lib.hid hRow
      have HM := Lib.hid hm
      rw [← hm] at HBeh hcap c2 hrl
      have hm1 : 1 ≤ m := by omega
      have hm2 : m ≤ 101 := by omega
      clear hx hX hP hRow hm hF ha h1 hI hrl hmost hE
      go_enter Tryz.func156, Tryz.ntmps156
      go_wp2_with fail
      refine HH.out.mono ?_
      rintro e w1 ⟨rfl, rfl⟩
      go_wp2_with fail
      refine HBeh.out.mono ?_
      rintro e w2 ⟨k, hk, rfl, hb⟩
      have hk1 := HR.out.pos (d := d) (by omega) hk
      have hkm : k ≤ m := by rw [HM.out]; exact hk.le
      obtain ⟨j, rfl⟩ : ∃ j, k = j + 1 := ⟨k - 1, by omega⟩
      obtain ⟨en, hen⟩ : ∃ en, x.R[j]? = some en := ⟨x.R[j]'(by rw [← HM.out]; omega), List.getElem?_eq_getElem _⟩
      have hbest := HR.out.best (d := d) (by omega) hk (e := en) (by simpa using hen)
      have d0 := kcell hb (pra_at HP.out hen).2
      have HB := Lib.hid hb
      have HBest := Lib.hid hbest
      clear hk hb hen c1 c2 hbest
      rw [show ((j + 1 : Nat) : Int) = (j : Int) + 1 by omega]
      have e1 : (j : Int) + 1 - 1 = (j : Int) := by omega
      go_wp2_with fail
      go_ret2
      exact ⟨by rw [HBest.out]; rfl, HB.out⟩

/-- an item as it is told -/
def itV (S : Bs) (i : Int) : Im := if hasB S i = true then (S.I[i.toNat]?).getD ⟨0, 0, 0, 0⟩ else ⟨0, 0, 0, 0⟩
def ItmR (w : World) (S : Bs) (i : Int) (e : Ending) (w' : World) : Prop := e = .returned (.tuple #[(itV S i).val, .bool (hasB S i)]) ∧ Below w.heap.size w w'
set_option maxRecDepth 100000 in
set_option maxHeartbeats 4000000 in
theorem item_any (i : Int) (h : Bk w p r S) : Calls Tryz.prog 135 #[.pointer (some ⟨p, 0, none⟩), .int .i64 i] w (ItmR w S i) := by
  have HH := Lib.hid (fun (W : World) (hb : Below w.heap.size w W) => bhas_any i (h.up hb))
  unfold ItmR itV Im.val
  cases h1 : hasB S i with
  | false =>
    rw [h1] at HH
    rw [if_neg (by simp)]
    clear h h1
    go_enter Tryz.func135, Tryz.ntmps135
    go_wp2_with fail
    refine (HH.out _ (boxed _ _)).mono ?_
    rintro e w1 ⟨rfl, rfl⟩
    go_wp2_with fail
    exact bodyPost_ret (v := .tuple #[.agg #[.int .i64 0, .int .i64 0, .int .i64 0, .int .i64 0], .bool false]) (by simp [results, Tryz.results135, go_sem]) rfl ⟨rfl, boxed _ _⟩
  | true =>
    rw [h1] at HH
    rw [if_pos rfl]
    have hI := hasB_iff.1 h1
    obtain ⟨g, rfl⟩ : ∃ g : Nat, i = g := ⟨i.toNat, by omega⟩
    have hg : g < S.I.length := by omega
    obtain ⟨qa, qc, X, hx⟩ := h
    have c0 := hx.c0
    obtain ⟨y, hy⟩ : ∃ y, S.I[g]? = some y := ⟨S.I[g], List.getElem?_eq_getElem _⟩
    obtain ⟨b, o, ha, hc⟩ : ∃ b o, qa = some ⟨b, o, none⟩ ∧ ∀ i x, S.I[i]? = some x → ∀ j v, (Im.cells x)[j]? = some v → w.cell? ⟨b, o + i * 4 + j, none⟩ = some v := by
      rcases hx.items with z | z
      · rw [z] at hg; simp at hg
      · exact z
    subst ha
    have k0 : w.cell? ⟨b, o + g * 4, none⟩ = some (.int .i64 y.tag) := hc g y hy 0 _ rfl
    have k1 : w.cell? ⟨b, o + g * 4 + 1, none⟩ = some (.int .i64 y.grp) := hc g y hy 1 _ rfl
    have k2 : w.cell? ⟨b, o + g * 4 + 2, none⟩ = some (.int .i64 y.met) := hc g y hy 2 _ rfl
    have k3 : w.cell? ⟨b, o + g * 4 + 3, none⟩ = some (.int .i64 y.pri) := hc g y hy 3 _ rfl
    rw [show ((g : Int).toNat) = g by omega, hy, Option.getD_some]
    have hbx : Below w.heap.size w (w.alloc (.cells #[.int .i64 0, .int .i64 0, .int .i64 0, .int .i64 0] 72)) := boxed _ _
    have q0 := kcell hbx c0
    have q1 := kcell hbx k0
    have q2 := kcell hbx k1
    have q3 := kcell hbx k2
    have q4 := kcell hbx k3
    clear hx h1 hI hc hy c0 k0 k1 k2 k3 hbx
    go_enter Tryz.func135, Tryz.ntmps135
    go_wp2_with fail
    refine (HH.out _ (boxed _ _)).mono ?_
    rintro e w1 ⟨rfl, rfl⟩
    go_wp2_with fail
    exact bodyPost_ret (v := .tuple #[.agg #[.int .i64 y.tag, .int .i64 y.grp, .int .i64 y.met, .int .i64 y.pri], .bool true]) (by simp [results, Tryz.results135, go_sem]) rfl ⟨rfl, boxed _ _⟩
end
end Go.Proofs.YtklaonoekmhakaaGreat
