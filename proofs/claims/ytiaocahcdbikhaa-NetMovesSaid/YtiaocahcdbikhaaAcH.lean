/- Sums of rows; an append in a region; with. -/
import Derived.Maps.Range
import Derived.Lib.AppendZeros
import Derived.Test.YtiaocahcdbikhaaAcG
import Derived.Test.YtiaocahcdbikhaaRn
namespace Go.Proofs.Ytiaocahcdbikhaa
open Go.RowKit

def sumL9 : List Int → Int
  | [] => 0
  | x :: l => x + sumL9 l
theorem sumL_append9 (l l' : List Int) : sumL9 (l ++ l') = sumL9 l + sumL9 l' := by
  induction l with
  | nil => simp [sumL9]
  | cons x l ih => simp only [List.cons_append, sumL9, ih]; omega
theorem sumTo_list (l : List Int) : sumTo (fun i => l.getD i 0) l.length = sumL9 l := by
  have : ∀ k, k ≤ l.length → sumTo (fun i => l.getD i 0) k = sumL9 (l.take k) := by
    intro k
    induction k with
    | zero => intro _; rfl
    | succ k ih =>
      intro hk
      simp only [sumTo]
      rw [ih (by omega), List.take_add_one, sumL_append9, List.getElem?_eq_getElem (by omega : k < l.length)]
      simp [sumL9, List.getElem?_eq_getElem (by omega : k < l.length)]
  have h := this l.length (Nat.le_refl _)
  rwa [List.take_length] at h
def plK (x : Po) : Int × Int := (x.a, x.c)
theorem Am1.form {w : World} {B : Nat} {v : Value} {zs : List Int} (h : Am1 w B v zs) : ∃ a c, v = .slice a zs.length c ∧ (a = none → c = 0) ∧ (zs = [] ∨ ∃ g, a = some ⟨g, 0, none⟩ ∧ ∀ i x, zs[i]? = some x → w.cell? ⟨g, i, none⟩ = some (.int .i64 x)) := by
  have h0 : w.ownsRow B 2 1 v zs.length (zs.map (Value.int .i64)) := h
  rcases h0.2 with ⟨rfl, h2⟩ | ⟨g, cap, cur, rfl, _⟩
  · exact ⟨none, 0, by rw [h2], fun _ => rfl, .inl (List.eq_nil_of_length_eq_zero h2)⟩
  · refine ⟨_, cap, rfl, (fun q => by cases q), .inr ⟨g, rfl, fun i x hx => ?_⟩⟩
    have hi : i < zs.length := (List.getElem?_eq_some_iff.1 hx).1
    have := World.ownsRow.cellAt (w := w) h0 i (by omega)
    rw [this, List.getElem?_map, hx]; rfl
set_option maxRecDepth 100000 in
set_option maxHeartbeats 400000 in
theorem sum_none (a : Option Addr) (cap : Nat) (w : World) :
    Calls Try.prog 14 #[.slice a 0 cap] w fun e w' => e = .returned (.tuple #[.int .i64 0, .int .i64 0]) ∧ Below w.heap.size w w' := by
  go_enter Try.func14, Try.ntmps14
  go_wp2_with fail
  go_loopw [6, 9] (fun _ i wr => i = .int .i64 0 ∧ SumAt w 0 wr) (fun _ _ _ => 0)
  case atStart => exact ⟨rfl, SumAt.start w⟩
  case round =>
    obtain ⟨rfl, hS⟩ := hrel
    have HS := Lib.hid hS
    clear hS
    obtain ⟨c0, c1, e0, e1⟩ := HS.out.2
    go_wp2_with fail
    refine (narrow_fit 0 _ (by omega) (by omega)).mono ?_
    rintro e w2 ⟨rfl, hb2⟩
    go_wp2_with fail
    go_ret2
    exact ⟨rfl, HS.out.1.trans (hb2.mono (by have := HS.out.2.lt; omega))⟩
/-- cents.Sum of a row -/
theorem sum_row (w : World) (a : Option Addr) (c : Nat) (zs : List Int) (h : zs = [] ∨ ∃ g o, a = some ⟨g, o, none⟩ ∧ ∀ i x, zs[i]? = some x → w.cell? ⟨g, o + i, none⟩ = some (.int .i64 x)) (hz : ∀ z ∈ zs, Am z) (hl : zs.length ≤ 1048576) :
    Calls Try.prog 14 #[.slice a zs.length c] w fun e w' => e = .returned (.tuple #[.int .i64 (tellV (sumL9 zs)), .int .i64 (tellE (sumL9 zs))]) ∧ Below w.heap.size w w' := by
  rcases h with rfl | ⟨g, o, rfl, hc⟩
  · exact sum_none a c w
  · have := sum_some (fun i => zs.getD i 0) (fun k => by
      by_cases q : k < zs.length
      · have := hz _ (List.getElem_mem q)
        unfold Am at this
        simpa [List.getD, q] using this
      · simp [List.getD, q]) g o zs.length c w hl (fun k hk => by
        rw [hc k _ (List.getElem?_eq_getElem hk)]
        simp [List.getD, hk])
    rw [sumTo_list] at this
    exact this
theorem sum_am1 {w : World} {B : Nat} {v : Value} {zs : List Int} (h : Am1 w B v zs) (hz : ∀ z ∈ zs, Am z) (hl : zs.length ≤ 1048576) :
    Calls Try.prog 14 #[v] w fun e w' => e = .returned (.tuple #[.int .i64 (tellV (sumL9 zs)), .int .i64 (tellE (sumL9 zs))]) ∧ Below w.heap.size w w' := by
  obtain ⟨a, c, rfl, _, hq⟩ := h.form
  refine sum_row w a c zs ?_ hz hl
  rcases hq with hq | ⟨g, e, hq⟩
  · exact .inl hq
  · exact .inr ⟨g, 0, e, fun i x hx => by rw [Nat.zero_add]; exact hq i x hx⟩

theorem info64 : (Try.prog.info? 2).map (fun i => (i.zero, i.size, i.bytes)) = some (some (.int .i64 0), 1, 8) := by kernel_rfl
/-- amounts appended to a row of the call's own -/
def AppS (w : World) (B : Nat) (v : Value) (zs : List Int) (v' : Value) (w' : World) : Prop :=
  Am1 w' B v' zs ∧ w.grownBy w' v.ownBlock ∧ (v'.ownBlock = v.ownBlock ∨ ∃ i, v'.ownBlock = some i ∧ w.heap.size ≤ i)
theorem app_rows (ty : TypeId) {w : World} {B : Nat} {v : Value} {zs ys : List Int} (h : Am1 w B v zs) (hB : B ≤ w.heap.size) (hl : zs.length + ys.length ≤ 1000000) (a : Option Addr) (c : Nat) (hc : a = none → c = 0)
    (hy : ys = [] ∨ ∃ g o, a = some ⟨g, o, none⟩ ∧ ∀ i x, ys[i]? = some x → w.cell? ⟨g, o + i, none⟩ = some (.int .i64 x)) :
    ∃ v' w', (Builtin.append_ #[33, 33] ty #[v, .slice a ys.length c]).run Try.prog w = .ok v' w' ∧ AppS w B v (zs ++ ys) v' w' := by
  obtain ⟨i, hi, hz0, hz1, hz2⟩ := info_parts info64
  have h0 : w.ownsRow B 2 1 v zs.length (zs.map (Value.int .i64)) := h
  cases a with
  | none =>
    have hys : ys = [] := by
      rcases hy with h | ⟨g, o, h, _⟩
      · exact h
      · cases h
    subst hys
    have hc := hc rfl
    subst hc
    refine ⟨v, w, run_append_owned_none w B 33 ty 2 i 1 Try.underlying33 hi _ _ _ h0, ?_, ⟨rfl, rfl, rfl, Nat.le_refl _, fun _ _ _ => rfl⟩, .inl rfl⟩
    rw [List.append_nil]; exact h
  | some ad =>
    have hnews : ∀ (j : Nat) (u : Value), (ys.map (Value.int .i64))[j]? = some u → w.cell? (ad.add j) = some u := fun j u e => by
      rcases hy with rfl | ⟨g, o, h, hs⟩
      · simp at e
      · obtain rfl : ad = ⟨g, o, none⟩ := Option.some.inj h
        rw [List.getElem?_map] at e
        cases hq : ys[j]? with
        | none => rw [hq] at e; cases e
        | some z => rw [hq] at e; cases e; rw [addr_off]; exact hs j z hq
    obtain ⟨v', w', hr, ho, hg, _, hl'⟩ := run_append_own_at (P := Try.prog) w B 33 ty 2 i _ 1 8 Try.underlying33 hi hz0 hz1 hz2 rfl (by decide) v zs.length _ h0 ad ys.length c (ys.map (Value.int .i64)) (by simp) hnews
      (fun u hu => by obtain ⟨z, _, rfl⟩ := List.mem_map.mp hu; rfl) (by unfold maxLen; omega) (by omega) hB
    refine ⟨v', w', hr, ?_, hg, hl'.imp id (fun e => ⟨_, e, Nat.le_refl _⟩)⟩
    show w'.ownsRow B 2 1 v' (zs ++ ys).length ((zs ++ ys).map (Value.int .i64))
    rw [List.length_append, List.map_append]
    exact ho
theorem app_one (ty : TypeId) {w : World} {B y : Nat} {v : Value} {zs : List Int} {n : Int} (h : Am1 w B v zs) (hB : B ≤ w.heap.size) (hl : zs.length ≤ 100000) (hy : w.cell? ⟨y, 0, none⟩ = some (.int .i64 n)) :
    ∃ v' w', (Builtin.append_ #[33, 33] ty #[v, .slice (some ⟨y, 0, none⟩) 1 1]).run Try.prog w = .ok v' w' ∧ AppS w B v (zs ++ [n]) v' w' := by
  refine app_rows ty (ys := [n]) h hB (by simp; omega) (some ⟨y, 0, none⟩) 1 (fun q => by cases q) (.inr ⟨y, 0, rfl, fun i x hx => ?_⟩)
  match i, hx with
  | 0, hx => simp at hx; subst hx; exact hy
theorem It.left {k : TypeId} {w : World} {b r : Nat} {l todo : List (Value × Value)} {P : Program} (h : It P k w b r l todo) : w.rangeLeft b r = todo.length := by
  obtain ⟨es, clock, since, seen, c0, h1, _, h2, _, _, _, rfl⟩ := h
  simp only [World.rangeLeft, h1.heap, h2, kv, List.length_map, Array.length_toList]
end Go.Proofs.Ytiaocahcdbikhaa
