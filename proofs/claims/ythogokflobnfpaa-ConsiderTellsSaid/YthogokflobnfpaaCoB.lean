/- parts: what counts, part by part, and what the rests are together. -/
import Derived.Test.YthogokflobnfpaaCoA
import Derived.Test.YthogokflobnfpaaI
import Derived.Test.YthogokflobnfpaaBoRun
import Derived.ArgAppend
import Derived.Laws.MakeOwn
import Derived.Laws.OwnMore
import Derived.Maps.AppendAt
namespace Go.Proofs.Ythogokflobnfpaa
open Go.RowKit

theorem infoI64o : (Try.prog.info? 2).map (fun i => (i.zero, i.size, i.bytes)) = some (some (.int .i64 0), 1, 8) := by kernel_rfl
/-- a block of numbers that may be written -/
def IntsO (W : World) (g n : Nat) (f : Nat → Int) : Prop := ∀ t, t < n → W.cell? ⟨g, t, none⟩ = some (.int .i64 (f t)) ∧ W.frozen? ⟨g, t, none⟩ = false
theorem made_intsO {w1 : World} {base g n : Nat} {e : TypeId} (h : w1.ownsRow base e 1 (.slice (some ⟨g, 0, none⟩) n n) n (madeCells #[Value.int .i64 0] n).toList) : IntsO w1 g n (fun _ => 0) := by
  rw [toList_madeCells_one] at h
  intro t ht
  refine ⟨?_, h.frozenAt t⟩
  rw [h.cellAt t (by simpa using ht)]
  rw [List.getElem?_replicate]; simp; omega
theorem IntsO.up {W W' : World} {g n : Nat} {f : Nat → Int} (h : IntsO W g n f) (q : Below W.heap.size W W') : IntsO W' g n f := fun t ht =>
  ⟨kcell q (h t ht).1, (q.frozen (p := ⟨g, t, none⟩) (World.block_lt_of_cell? _ _ (h t ht).1)).trans (h t ht).2⟩
theorem IntsO.put {W : World} {g n : Nat} {f : Nat → Int} (h : IntsO W g n f) {k : Nat} (v : Int) {f' : Nat → Int} (hf : ∀ t, t < n → f' t = if t = k then v else f t) : IntsO (W.setCell ⟨g, k, none⟩ (.int .i64 v)) g n f' := fun t ht => by
  rw [hf t ht]
  by_cases q : t = k
  · subst q; rw [if_pos rfl]; exact ⟨csame (h t ht).1, fset (h t ht).2⟩
  · rw [if_neg q]; exact ⟨cset (h t ht).1 (.inr q), fset (h t ht).2⟩
def mbAt (l : List Mb) (k : Nat) : Mb := (l[k]?).getD ⟨0, 0⟩
theorem mbAt_some {l : List Mb} {k : Nat} {x : Mb} (h : l[k]? = some x) : mbAt l k = x := by unfold mbAt; rw [h]; rfl
theorem sumM_take {g : Mb → Int} {l : List Mb} {k : Nat} {x : Mb} (h : l[k]? = some x) : sumM g (l.take (k + 1)) = sumM g (l.take k) + g x := by
  rw [List.take_add_one, h, sumM_append]; simp [sumM]
def intV (n : Int) : Value := .int .i64 n
/-- a row of numbers of a call's own -/
abbrev OwI (W : World) (B : Nat) (v : Value) (z : List Int) : Prop := W.ownsRow B 2 1 v z.length (z.map intV)
/-- one more number, where there is room or not -/
theorem owi_app {W : World} {B : Nat} {v : Value} {z : List Int} (h : OwI W B v z) (hz : z.length ≤ 1000) (hB : B ≤ W.heap.size) {y : Nat} {x : Int} (hy : Has W y 2 #[.int .i64 x]) (ty : TypeId) :
    ∃ v' w', (Builtin.append_ #[50, 50] ty #[v, .slice (some ⟨y, 0, none⟩) 1 1]).run Try.prog W = .ok v' w' ∧ OwI w' B v' (z ++ [x]) ∧ W.grownBy w' v.ownBlock := by
  obtain ⟨i, hi, hz0, hz1, hz2⟩ := info_parts infoI64o
  obtain ⟨v', w', hr, ho, hg, _⟩ := run_append_own_at (P := Try.prog) W B 50 ty 2 i _ 1 8 Try.underlying50 hi hz0 hz1 hz2 rfl (by decide) v z.length _ h ⟨y, 0, none⟩ 1 1 [.int .i64 x] rfl
    (fun j u hu => by
      rw [addr_off, Nat.zero_add, hy.cell]
      exact (List.getElem?_toArray (xs := [Value.int .i64 x]) (i := j)).trans hu)
    (fun u hu => by simp at hu; rw [hu]; rfl) (by unfold maxLen; omega) (by omega) hB
  refine ⟨v', w', hr, ?_, hg⟩
  show w'.ownsRow B 2 1 v' (z ++ [x]).length ((z ++ [x]).map intV)
  rw [List.length_append, List.map_append]; exact ho
/-- a block of a call's own, full: one more makes another -/
theorem ints_app {W : World} {g n : Nat} {f : Nat → Int} (h : IntsO W g n f) (hn : n ≤ 1000) {z : List Int} (hz : z.length = n) (hf : ∀ t x, z[t]? = some x → f t = x) {y : Nat} {x : Int} (hy : Has W y 2 #[.int .i64 x]) (ty : TypeId) :
    ∃ v' w', (Builtin.append_ #[50, 50] ty #[.slice (some ⟨g, 0, none⟩) n n, .slice (some ⟨y, 0, none⟩) 1 1]).run Try.prog W = .ok v' w' ∧ OwI w' W.heap.size v' (z ++ [x]) ∧ W.grownBy w' none := by
  obtain ⟨i, hi, hz0, hz1, hz2⟩ := info_parts infoI64o
  obtain ⟨v', w', hr, ho, hg⟩ := run_append_arg_grows (P := Try.prog) W 50 ty 2 i _ 1 8 Try.underlying50 hi hz0 hz1 hz2 rfl (by decide) ⟨g, 0, none⟩ n n (z.map intV) (by rw [List.length_map, hz, Nat.mul_one])
    (fun j u hu => by
      rw [addr_off, Nat.zero_add]
      rw [List.getElem?_map] at hu
      cases q : z[j]? with
      | none => rw [q] at hu; cases hu
      | some t =>
        rw [q] at hu
        have hj := (List.getElem?_eq_some_iff.1 q).1
        rw [(h j (by omega)).1, hf j t q]; exact hu)
    ⟨y, 0, none⟩ 1 1 [.int .i64 x] rfl
    (fun j u hu => by
      rw [addr_off, Nat.zero_add, hy.cell]
      exact (List.getElem?_toArray (xs := [Value.int .i64 x]) (i := j)).trans hu) (by omega) (by unfold maxLen; omega) (by omega)
  refine ⟨v', w', hr, ?_, hg⟩
  show w'.ownsRow W.heap.size 2 1 v' (z ++ [x]).length ((z ++ [x]).map intV)
  rw [List.length_append, List.map_append, hz]; exact ho
end Go.Proofs.Ythogokflobnfpaa
