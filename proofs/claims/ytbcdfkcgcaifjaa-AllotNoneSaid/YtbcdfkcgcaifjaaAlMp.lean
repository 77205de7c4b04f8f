/- Maps of places: put, delete, look. -/
import Derived.Maps.OwnSet
import Derived.Test.YtbcdfkcgcaifjaaAlA
import Derived.Test.YtbcdfkcgcaifjaaAcMap
namespace Go.Proofs.Ytbcdfkcgcaifjaa
open Go.RowKit
open Go.MapKept (Stamped stamped_iff stamped_erase)
open Go.ChangeMaps (setBlock heap_setBlock_same heap_setBlock_other)
open Go.Maps (Keyed)

section
variable {P : Program} {k : TypeId} {w : World} {b : Nat} {l : List (Value × Value)}
/-- 'delete(m, k)' -/
theorem Mp.del {t e : TypeId} {key : Value} (K : Keyed P k) (ht : P.underlying t = some (.map k e)) (h : Mp P k w b l) (hk : Ky P k key) (ty : TypeId) :
    ∃ w' l', (Builtin.delete_ #[t, k] ty #[.map (some b), key]).run P w = .ok (.tuple #[]) w' ∧ Mp P k w' b l' ∧ (∀ x, x ∈ l' ↔ x ∈ l ∧ x.1 ≠ key) ∧ w.grownBy w' (some b) ∧ w'.heap.size = w.heap.size := by
  have hap := h.apart
  obtain ⟨es, c, h, rfl⟩ := h
  obtain ⟨kl, hkey⟩ := hk
  rcases K.find w hkey es.toList h.keys with ⟨h1, h2⟩ | ⟨j, e0, h1, h2, h3⟩
  · refine ⟨setBlock w b (.map es c), kv es.toList, ?_, ⟨_, _, ⟨heap_setBlock_same h.heap _, h.st, h.keys⟩, rfl⟩, fun x => ⟨fun hx => ⟨hx, ?_⟩, fun hx => hx.1⟩, grown_at h.heap, by simp [setBlock]⟩
    · simp [Builtin.delete_, run_underlying ht, MapKept.run_getObj_map h.heap, K.check w _ hkey, h1, MapKept.run_setObj_map _ h.heap, Result.andThen, setBlock]
    · obtain ⟨e, he, rfl⟩ := List.mem_map.1 hx
      exact h2 e he
  · obtain ⟨hjl, hje⟩ := List.getElem?_eq_some_iff.1 h2
    have hjs : j < es.size := by simpa using hjl
    have hsub : (es.eraseIdxIfInBounds j).toList = es.toList.eraseIdx j := by
      unfold Array.eraseIdxIfInBounds
      rw [dif_pos hjs]
      simp
    have hsp : es.toList = es.toList.take j ++ e0 :: es.toList.drop (j + 1) := by
      rw [← hje, ← List.drop_eq_getElem_cons hjl, List.take_append_drop]
    have hers : es.toList.eraseIdx j = es.toList.take j ++ es.toList.drop (j + 1) := List.eraseIdx_eq_take_drop_succ _ _
    refine ⟨setBlock w b (.map (es.eraseIdxIfInBounds j) c), kv (es.toList.eraseIdx j), ?_, ⟨_, _, ⟨heap_setBlock_same h.heap _, stamped_erase h.st j, ?_⟩, by rw [hsub]⟩, fun x => ?_, grown_at h.heap, by simp [setBlock]⟩
    · simp [Builtin.delete_, run_underlying ht, MapKept.run_getObj_map h.heap, K.check w _ hkey, h1, MapKept.run_setObj_map _ h.heap, Result.andThen, setBlock]
    · intro x hx
      rw [hsub] at hx
      exact h.keys x ((List.eraseIdx_sublist _ _).subset hx)
    · have e1 : kv es.toList = kv (es.toList.take j) ++ (key, e0.val) :: kv (es.toList.drop (j + 1)) := by
        conv => lhs; rw [hsp]
        simp [kv, h3]
      have e2 : kv (es.toList.eraseIdx j) = kv (es.toList.take j) ++ kv (es.toList.drop (j + 1)) := by rw [hers]; simp [kv]
      rw [e2, e1]
      rw [e1, List.map_append, List.map_cons, List.nodup_append] at hap
      obtain ⟨_, hn2, hn3⟩ := hap
      have hn4 := (List.nodup_cons.1 hn2).1
      constructor
      · intro hx
        rcases List.mem_append.1 hx with hx | hx
        · refine ⟨List.mem_append.2 (.inl hx), fun q => ?_⟩
          exact hn3 x.1 (List.mem_map.2 ⟨x, hx, rfl⟩) key (by simp) q
        · refine ⟨List.mem_append.2 (.inr (List.mem_cons_of_mem _ hx)), fun q => hn4 ?_⟩
          rw [← q]; exact List.mem_map.2 ⟨x, hx, rfl⟩
      · rintro ⟨hx, hq⟩
        rcases List.mem_append.1 hx with hx | hx
        · exact List.mem_append.2 (.inl hx)
        · rcases List.mem_cons.1 hx with hx | hx
          · rw [hx] at hq; exact absurd rfl hq
          · exact List.mem_append.2 (.inr hx)
/-- a delete in a walk, by what it gives -/
theorem wpList_delete_run {ops : Array Oper} {rest : List Oper} {o : Oper} {a : Act} {Q : Exit → Act → World → Prop} (hgd : o.guard = none) (m x : Operand) (t : TypeId)
    (ho : o.op = .call { callee := .builtin .delete, args := #[m, x], argTypes := #[t, k] }) (vm vx : Value) (hm : a.eval m = vm) (hx : a.eval x = vx)
    (w' : World) (hr : (Builtin.delete_ #[t, k] o.type #[vm, vx]).run P w = .ok (.tuple #[]) w') (h : wpList P ops Q rest (a.put o.dst (.tuple #[])) w') : wpList P ops Q (o :: rest) a w := by
  refine wpList_plain hgd fun K' hK' => ?_
  unfold Oper.wp
  simp [execOp, ho, resolve, invoke, builtin, hm, hx, hr, Result.andThen]
  exact hK' _ _ h
end

theorem lawInt13 : Keyed Try.prog 3 := Go.Maps.int_keyed Try.underlying3
theorem wf13 {k n : Nat} (hk : k < n) (hn : n ≤ 1000) : (Lit.int .i64 (k : Int)).wf = true := WalkArith.wf_i64 (by omega)
theorem ky13 {k n : Nat} (hk : k < n) (hn : n ≤ 1000) : Ky Try.prog 3 (.int .i64 (k : Int)) := ⟨_, Go.Maps.keyOf_int_mk Try.underlying3 (wf13 hk hn)⟩
/-- block b is a map of places: where D holds, what g says -/
def Mi (W : World) (b n : Nat) (D : Nat → Prop) (g : Nat → Value) : Prop :=
  ∃ l, Mp Try.prog 3 W b l ∧ (∀ x ∈ l, ∃ t : Nat, t < n ∧ D t ∧ x = (.int .i64 (t : Int), g t)) ∧ ∀ t : Nat, t < n → D t → (Value.int .i64 (t : Int), g t) ∈ l
section
variable {W W' : World} {b n : Nat} {D D' : Nat → Prop} {g : Nat → Value}
theorem Mi.keep (h : Mi W b n D g) (e : W'.heap[b]? = W.heap[b]?) : Mi W' b n D g := by
  obtain ⟨l, h1, h2⟩ := h; exact ⟨l, h1.keep e, h2⟩
theorem Mi.lt (h : Mi W b n D g) : b < W.heap.size := by obtain ⟨l, h1, _⟩ := h; exact h1.lt
theorem Mi.up (h : Mi W b n D g) (q : Below W.heap.size W W') : Mi W' b n D g := h.keep (q.block b h.lt)
theorem Mi.off (h : Mi W b n D g) {p : Addr} (q : b ≠ p.block) (u : Value) : Mi (W.setCell p u) b n D g := h.keep (Below.heap_setCell W p u b q)
theorem Mi.fresh (W : World) (n : Nat) (g : Nat → Value) : Mi (W.alloc (.map #[] 0)) W.heap.size n (fun _ => False) g := ⟨[], Mp.fresh W, fun x hx => by simp at hx, fun _ _ q => q.elim⟩
theorem Mi.same (h : Mi W b n D g) (e : ∀ t, t < n → (D' t ↔ D t)) : Mi W b n D' g := by
  obtain ⟨l, h1, h2, h3⟩ := h
  exact ⟨l, h1, fun x hx => by obtain ⟨t, t1, t2, t3⟩ := h2 x hx; exact ⟨t, t1, (e t t1).2 t2, t3⟩, fun t t1 t2 => h3 t t1 ((e t t1).1 t2)⟩
theorem key_eq {s t : Nat} (h : Value.int .i64 (s : Int) = Value.int .i64 (t : Int)) : s = t := by injection h with _ h; omega
theorem Mi.put {t e : TypeId} (ht : Try.prog.underlying t = some (.map 3 e)) (h : Mi W b n D g) (hn : n ≤ 1000) {k : Nat} (hk : k < n) :
    ∃ W', (Instr.mapUpdate t (.map (some b)) (.int .i64 (k : Int)) (g k)).run Try.prog W = .ok () W' ∧ Mi W' b n (fun t => D t ∨ t = k) g ∧ W.grownBy W' (some b) ∧ W'.heap.size = W.heap.size := by
  obtain ⟨l, h1, h2, h3⟩ := h
  obtain ⟨W', l', hr, hm, hp, hg, hs⟩ := h1.put (val := g k) lawInt13 ht (ky13 hk hn)
  refine ⟨W', hr, ⟨l', hm, fun x hx => ?_, fun s s1 s2 => ?_⟩, hg, hs⟩
  · rcases hp with ⟨_, rfl⟩ | ⟨l1, v0, l2, rfl, rfl⟩
    · rcases List.mem_append.1 hx with hx | hx
      · obtain ⟨s, s1, s2, s3⟩ := h2 x hx; exact ⟨s, s1, .inl s2, s3⟩
      · exact ⟨k, hk, .inr rfl, by simpa using hx⟩
    · rcases List.mem_append.1 hx with hx | hx
      · obtain ⟨s, s1, s2, s3⟩ := h2 x (List.mem_append.2 (.inl hx)); exact ⟨s, s1, .inl s2, s3⟩
      · rcases List.mem_cons.1 hx with hx | hx
        · exact ⟨k, hk, .inr rfl, hx⟩
        · obtain ⟨s, s1, s2, s3⟩ := h2 x (List.mem_append.2 (.inr (List.mem_cons_of_mem _ hx))); exact ⟨s, s1, .inl s2, s3⟩
  · by_cases q : s = k
    · subst q
      rcases hp with ⟨_, rfl⟩ | ⟨l1, v0, l2, rfl, rfl⟩ <;> simp
    · have hin := h3 s s1 (by rcases s2 with h | h; exact h; exact absurd h q)
      rcases hp with ⟨_, rfl⟩ | ⟨l1, v0, l2, rfl, rfl⟩
      · exact List.mem_append.2 (.inl hin)
      · rcases List.mem_append.1 hin with hx | hx
        · exact List.mem_append.2 (.inl hx)
        · rcases List.mem_cons.1 hx with hx | hx
          · injection hx with h _; exact absurd (key_eq h) q
          · exact List.mem_append.2 (.inr (List.mem_cons_of_mem _ hx))
theorem Mi.del {t e : TypeId} (ht : Try.prog.underlying t = some (.map 3 e)) (h : Mi W b n D g) (hn : n ≤ 1000) {k : Nat} (hk : k < n) (ty : TypeId) :
    ∃ W', (Builtin.delete_ #[t, 3] ty #[.map (some b), .int .i64 (k : Int)]).run Try.prog W = .ok (.tuple #[]) W' ∧ Mi W' b n (fun t => D t ∧ t ≠ k) g ∧ W.grownBy W' (some b) ∧ W'.heap.size = W.heap.size := by
  obtain ⟨l, h1, h2, h3⟩ := h
  obtain ⟨W', l', hr, hm, hp, hg, hs⟩ := h1.del lawInt13 ht (ky13 hk hn) ty
  refine ⟨W', hr, ⟨l', hm, fun x hx => ?_, fun s s1 s2 => ?_⟩, hg, hs⟩
  · obtain ⟨x1, x2⟩ := (hp x).1 hx
    obtain ⟨s, s1, s2, s3⟩ := h2 x x1
    exact ⟨s, s1, ⟨s2, fun q => x2 (by rw [s3, q])⟩, s3⟩
  · exact (hp _).2 ⟨h3 s s1 s2.1, fun q => s2.2 (key_eq q)⟩
theorem Mi.look {t e : TypeId} {z : Value} (ht : Try.prog.underlying t = some (.map 3 e)) (hz : ∀ W, (zeroValue e).run Try.prog W = .ok z W) (h : Mi W b n D g) (hn : n ≤ 1000) {k : Nat} (hk : k < n) :
    ∃ v, (Instr.lookup t (.map (some b)) (.int .i64 (k : Int)) false).run Try.prog W = .ok v W ∧ (D k → v = g k) ∧ (¬ D k → v = z) := by
  obtain ⟨l, h1, h2, h3⟩ := h
  obtain ⟨v, hr, hv⟩ := h1.look lawInt13 ht (hz W) (ky13 hk hn)
  refine ⟨v, hr, fun q => ?_, fun q => ?_⟩
  · rcases hv with ⟨_, hno⟩ | hin
    · exact absurd rfl (hno _ (h3 k hk q))
    · exact h1.one hin (h3 k hk q)
  · rcases hv with ⟨e, _⟩ | hin
    · exact e
    · obtain ⟨s, _, s2, s3⟩ := h2 _ hin
      injection s3 with s4 _
      rw [← key_eq s4] at s2; exact absurd s2 q
theorem Mi.no_cell (h : Mi W b n D g) (o : Nat) : W.cell? ⟨b, o, none⟩ = none := by
  obtain ⟨l, ⟨es, c, q, _⟩, _⟩ := h
  simp [World.cell?, q.heap]
/-- lists stay while a map is turned -/
theorem Arg.map {a : Option Addr} {k : Nat} {f : Nat → Int} (h : Arg W a k f) (hm : Mi W b n D g) (hg : W.grownBy W' (some b)) : Arg W' a k f := fun q => by
  obtain ⟨b1, off, e, hr⟩ := h q
  refine ⟨b1, off, e, fun i hi => hg.cell (hr i hi) fun e2 => ?_⟩
  injection e2 with e2
  have e3 : b1 = b := e2
  have := hr i hi
  rw [e3, hm.no_cell] at this
  cases this
end
end Go.Proofs.Ytbcdfkcgcaifjaa
