/- Maps, plainly: what a block holds, as a list in the order in which keys came. -/
import Derived.Maps.Own
import Derived.Maps.RangeRun
import Derived.DeepKeys4
import Derived.Test.YtiaocahcdbikhaaBk
namespace Go.Proofs.Ytiaocahcdbikhaa
open Go.RowKit
open Go.MapKept (Stamped stamped_iff stamped_empty stamped_push stamped_modify)
open Go.ChangeMaps (setBlock heap_setBlock_same heap_setBlock_other)
open Go.Maps (Keyed)

/-- a value that may be a key -/
def Ky (P : Program) (k : TypeId) (v : Value) : Prop := ∃ l, keyOf P k v = some l
def kv (l : List MapEntry) : List (Value × Value) := l.map fun e => (e.key, e.val)
structure Mq (P : Program) (k : TypeId) (w : World) (b : Nat) (es : Array MapEntry) (clock : Nat) : Prop where
  heap : w.heap[b]? = some (.map es clock)
  st : Stamped es clock
  keys : ∀ x ∈ es.toList, Ky P k x.key
/-- block b is a map of just these keys and elements, in the order in which the keys came -/
def Mp (P : Program) (k : TypeId) (w : World) (b : Nat) (l : List (Value × Value)) : Prop := ∃ es clock, Mq P k w b es clock ∧ kv es.toList = l
/-- .. and the i-th entry bears this stamp -/
def Ms (P : Program) (k : TypeId) (w : World) (b : Nat) (l : List (Value × Value)) (i s : Nat) : Prop :=
  ∃ es clock, Mq P k w b es clock ∧ kv es.toList = l ∧ ∃ e, es.toList[i]? = some e ∧ e.born = s
/-- block r goes through the map in block b; todo: what is still to come -/
def It (P : Program) (k : TypeId) (w : World) (b r : Nat) (l todo : List (Value × Value)) : Prop :=
  ∃ es clock since seen c0, Mq P k w b es clock ∧ kv es.toList = l ∧ w.heap[r]? = some (.mapIter (some b) since seen c0) ∧
    (∀ x ∈ es.toList, x.born < since) ∧ since ≤ c0 ∧ since ≤ clock ∧ kv (leftOf es seen).toList = todo

section
variable {P : Program} {k : TypeId} {w w' : World} {b r : Nat} {l todo : List (Value × Value)}

theorem Mq.lt {es : Array MapEntry} {clock : Nat} (h : Mq P k w b es clock) : b < w.heap.size := (Array.getElem?_eq_some_iff.1 h.heap).1
theorem Mp.lt (h : Mp P k w b l) : b < w.heap.size := by obtain ⟨_, _, h, _⟩ := h; exact h.lt
theorem Ms.mp {i s : Nat} (h : Ms P k w b l i s) : Mp P k w b l := by obtain ⟨es, c, h, e, _⟩ := h; exact ⟨es, c, h, e⟩
theorem It.mp (h : It P k w b r l todo) : Mp P k w b l := by obtain ⟨es, c, _, _, _, h, e, _⟩ := h; exact ⟨es, c, h, e⟩
theorem It.ltr (h : It P k w b r l todo) : r < w.heap.size := by
  obtain ⟨es, c, _, _, _, _, _, h, _⟩ := h; exact (Array.getElem?_eq_some_iff.1 h).1
theorem It.ne (h : It P k w b r l todo) : r ≠ b := by
  obtain ⟨es, c, _, _, _, h, _, h2, _⟩ := h
  intro e; rw [e, h.heap] at h2; cases h2
theorem Mp.keep (h : Mp P k w b l) (e : w'.heap[b]? = w.heap[b]?) : Mp P k w' b l := by
  obtain ⟨es, c, h, q⟩ := h; exact ⟨es, c, ⟨e.trans h.heap, h.st, h.keys⟩, q⟩
theorem Ms.keep {i s : Nat} (h : Ms P k w b l i s) (e : w'.heap[b]? = w.heap[b]?) : Ms P k w' b l i s := by
  obtain ⟨es, c, h, q⟩ := h; exact ⟨es, c, ⟨e.trans h.heap, h.st, h.keys⟩, q⟩
theorem It.keep (h : It P k w b r l todo) (e : w'.heap[b]? = w.heap[b]?) (e2 : w'.heap[r]? = w.heap[r]?) : It P k w' b r l todo := by
  obtain ⟨es, c, a1, a2, a3, h, q, h2, q2⟩ := h; exact ⟨es, c, a1, a2, a3, ⟨e.trans h.heap, h.st, h.keys⟩, q, e2.trans h2, q2⟩
theorem Mp.up (h : Mp P k w b l) (q : Below w.heap.size w w') : Mp P k w' b l := h.keep (q.block b h.lt)
theorem It.up (h : It P k w b r l todo) (q : Below w.heap.size w w') : It P k w' b r l todo := h.keep (q.block b h.mp.lt) (q.block r h.ltr)
theorem Mp.drew (h : Mp P k w b l) : Mp P k w.drew b l := h.keep rfl
theorem Mp.fresh (w : World) : Mp P k (w.alloc (.map #[] 0)) w.heap.size [] :=
  ⟨#[], 0, ⟨(MapKept.heap_alloc w _).1, stamped_empty 0, by simp⟩, rfl⟩
/-- no key stands twice -/
theorem Mp.apart (h : Mp P k w b l) : (l.map (·.1)).Nodup := by
  obtain ⟨es, c, h, rfl⟩ := h
  have := h.st.2.2
  unfold kv
  rw [List.map_map]
  exact this
/-- of one key there is one element -/
theorem Mp.one (h : Mp P k w b l) {key u v : Value} (hu : (key, u) ∈ l) (hv : (key, v) ∈ l) : u = v := by
  have hn := h.apart
  clear h
  induction l with
  | nil => simp at hu
  | cons x l ih =>
    rw [List.map_cons, List.nodup_cons] at hn
    rcases List.mem_cons.1 hu with e | hu'
    · rcases List.mem_cons.1 hv with e' | hv'
      · have := e.trans e'.symm; injection this
      · exact absurd (List.mem_map.2 ⟨_, hv', by rw [← e]⟩) hn.1
    · rcases List.mem_cons.1 hv with e' | hv'
      · exact absurd (List.mem_map.2 ⟨_, hu', by rw [← e']⟩) hn.1
      · exact ih hu' hv' hn.2

/-- what a store leaves -/
def Put (l : List (Value × Value)) (key val : Value) (l' : List (Value × Value)) : Prop :=
  ((∀ x ∈ l, x.1 ≠ key) ∧ l' = l ++ [(key, val)]) ∨ ∃ l1 v0 l2, l = l1 ++ (key, v0) :: l2 ∧ l' = l1 ++ (key, val) :: l2

theorem grown_at {es : Array MapEntry} {c : Nat} {o' : Obj} (hb : w.heap[b]? = some (.map es c)) : w.grownBy (setBlock w b o') (some b) := ⟨rfl, rfl, rfl, by simp [setBlock], fun i _ hi => heap_setBlock_other hb _ (fun e => hi (by rw [e]))⟩

/-- 'm[k] = v' -/
theorem Mp.put {t e : TypeId} {key val : Value} (K : Keyed P k) (ht : P.underlying t = some (.map k e)) (h : Mp P k w b l) (hk : Ky P k key) :
    ∃ w' l', (Instr.mapUpdate t (.map (some b)) key val).run P w = .ok () w' ∧ Mp P k w' b l' ∧ Put l key val l' ∧ w.grownBy w' (some b) ∧ w'.heap.size = w.heap.size := by
  obtain ⟨es, c, h, rfl⟩ := h
  have hk0 := hk
  obtain ⟨kl, hkey⟩ := hk
  rcases K.find w hkey es.toList h.keys with ⟨h1, h2⟩ | ⟨j, e0, h1, h2, h3⟩
  · refine ⟨setBlock w b (.map (es.push ⟨key, val, c⟩) (c + 1)), kv es.toList ++ [(key, val)], ?_, ⟨_, _, ⟨heap_setBlock_same h.heap _, stamped_push h.st h2, ?_⟩, by simp [kv]⟩, .inl ⟨?_, rfl⟩, grown_at h.heap, by simp [setBlock]⟩
    · simp [Instr.mapUpdate, run_underlying ht, MapKept.run_getObj_map h.heap, K.check w false hkey, h1, MapKept.run_setObj_map _ h.heap, Result.andThen, setBlock]
    · intro x hx
      simp only [Array.toList_push, List.mem_append, List.mem_singleton] at hx
      rcases hx with hx | rfl
      · exact h.keys x hx
      · exact hk0
    · intro x hx
      obtain ⟨e, he, rfl⟩ := List.mem_map.1 hx
      exact h2 e he
  · have hj : es[j]? = some e0 := by simpa using h2
    have hkeyf : ∀ e', es[j]? = some e' → ({ e' with key := key, val := val } : MapEntry).key = e'.key := fun e' he' => by rw [hj] at he'; cases he'; exact h3.symm
    have hlist : (es.modify j (fun e' => { e' with key := key, val := val })).toList = es.toList.set j { e0 with key := key, val := val } := by rw [Array.toList_modify, ChangeMaps.modify_eq_set _ _ _ _ h2]
    obtain ⟨hjl, hje⟩ := List.getElem?_eq_some_iff.1 h2
    have hsp : es.toList = es.toList.take j ++ e0 :: es.toList.drop (j + 1) := by
      rw [← hje, ← List.drop_eq_getElem_cons hjl, List.take_append_drop]
    refine ⟨setBlock w b (.map (es.modify j (fun e' => { e' with key := key, val := val })) c), kv (es.toList.take j) ++ (key, val) :: kv (es.toList.drop (j + 1)), ?_,
      ⟨_, _, ⟨heap_setBlock_same h.heap _, stamped_modify h.st _ _ (fun _ _ => rfl) (fun e' _ he' => hkeyf e' he'), ?_⟩, ?_⟩, .inr ⟨kv (es.toList.take j), e0.val, kv (es.toList.drop (j + 1)), ?_, rfl⟩, grown_at h.heap, by simp [setBlock]⟩
    · simp [Instr.mapUpdate, run_underlying ht, MapKept.run_getObj_map h.heap, K.check w false hkey, h1, hj, h3, K.stays w hkey, MapKept.run_setObj_map _ h.heap, Result.andThen, setBlock]
    · intro x hx
      rw [hlist] at hx
      rcases List.mem_or_eq_of_mem_set hx with hx | rfl
      · exact h.keys x hx
      · exact hk0
    · rw [hlist, List.set_eq_take_append_cons_drop, if_pos hjl]
      simp [kv]
    · conv => lhs; rw [hsp]
      simp [kv, h3]

/-- 'm[k] op= v', its first half -/
theorem Mp.entry {t e : TypeId} {z key : Value} (K : Keyed P k) (ht : P.underlying t = some (.map k e)) (hz : (zeroValue e).run P w = .ok z w) (h : Mp P k w b l) (hk : Ky P k key) :
    ∃ w' v l1 l2 s, (Instr.mapEntry t (.map (some b)) key).run P w = .ok (.tuple #[v, .int .i64 ((s : Nat) : Int)]) w' ∧ Ms P k w' b (l1 ++ (key, v) :: l2) l1.length s ∧
      (((∀ x ∈ l, x.1 ≠ key) ∧ l = l1 ∧ l2 = [] ∧ v = z) ∨ l = l1 ++ (key, v) :: l2) ∧ w.grownBy w' (some b) ∧ w'.heap.size = w.heap.size := by
  obtain ⟨es, c, h, rfl⟩ := h
  have hk0 := hk
  obtain ⟨kl, hkey⟩ := hk
  rcases K.find w hkey es.toList h.keys with ⟨h1, h2⟩ | ⟨j, e0, h1, h2, h3⟩
  · refine ⟨setBlock w b (.map (es.push ⟨key, z, c⟩) (c + 1)), z, kv es.toList, [], c, ?_, ⟨_, _, ⟨heap_setBlock_same h.heap _, stamped_push h.st h2, ?_⟩, by simp [kv], ⟨key, z, c⟩, by simp [kv], rfl⟩, .inl ⟨?_, rfl, rfl, rfl⟩, grown_at h.heap, by simp [setBlock]⟩
    · simp [Instr.mapEntry, run_underlying ht, MapKept.run_getObj_map h.heap, K.check w false hkey, h1, hz, MapKept.run_setObj_map _ h.heap, Result.andThen, setBlock, goInt]
    · intro x hx
      simp only [Array.toList_push, List.mem_append, List.mem_singleton] at hx
      rcases hx with hx | rfl
      · exact h.keys x hx
      · exact hk0
    · intro x hx
      obtain ⟨e, he, rfl⟩ := List.mem_map.1 hx
      exact h2 e he
  · have hj : es[j]? = some e0 := by simpa using h2
    have hkeyf : ∀ e', es[j]? = some e' → ({ e' with key := key } : MapEntry).key = e'.key := fun e' he' => by rw [hj] at he'; cases he'; exact h3.symm
    have hlist : (es.modify j (fun e' => { e' with key := key })).toList = es.toList.set j { e0 with key := key } := by rw [Array.toList_modify, ChangeMaps.modify_eq_set _ _ _ _ h2]
    obtain ⟨hjl, hje⟩ := List.getElem?_eq_some_iff.1 h2
    have hsp : es.toList = es.toList.take j ++ e0 :: es.toList.drop (j + 1) := by
      rw [← hje, ← List.drop_eq_getElem_cons hjl, List.take_append_drop]
    refine ⟨setBlock w b (.map (es.modify j (fun e' => { e' with key := key })) c), e0.val, kv (es.toList.take j), kv (es.toList.drop (j + 1)), e0.born, ?_,
      ⟨_, _, ⟨heap_setBlock_same h.heap _, stamped_modify h.st _ _ (fun _ _ => rfl) (fun e' _ he' => hkeyf e' he'), ?_⟩, ?_, { e0 with key := key }, ?_, rfl⟩, .inr ?_, grown_at h.heap, by simp [setBlock]⟩
    · simp [Instr.mapEntry, run_underlying ht, MapKept.run_getObj_map h.heap, K.check w false hkey, h1, hj, h3, K.stays w hkey, MapKept.run_setObj_map _ h.heap, Result.andThen, setBlock, goInt]
    · intro x hx
      rw [hlist] at hx
      rcases List.mem_or_eq_of_mem_set hx with hx | rfl
      · exact h.keys x hx
      · exact hk0
    · rw [hlist, List.set_eq_take_append_cons_drop, if_pos hjl]
      simp [kv]
    · have hlen : (kv (es.toList.take j)).length = j := by unfold kv; rw [List.length_map, List.length_take]; omega
      rw [hlist, hlen, List.getElem?_set_self hjl]
    · conv => lhs; rw [hsp]
      simp [kv, h3]

/-- .. and its second -/
theorem Ms.store {t : TypeId} {l1 l2 : List (Value × Value)} {key v0 val : Value} {s : Nat} (h : Ms P k w b (l1 ++ (key, v0) :: l2) l1.length s) :
    ∃ w', (Instr.entryStore t (.map (some b)) (.int .i64 (s : Int)) val).run P w = .ok () w' ∧ Mp P k w' b (l1 ++ (key, val) :: l2) ∧ w.grownBy w' (some b) ∧ w'.heap.size = w.heap.size := by
  obtain ⟨es, c, h, hl, e0, he, rfl⟩ := h
  have hst := (stamped_iff es c).1 h.st
  obtain ⟨hjl, hje⟩ := List.getElem?_eq_some_iff.1 he
  have hjs : l1.length < es.size := by simpa using hjl
  have hfi : es.findIdx? (fun e => ((e.born : Nat) : Int) == (e0.born : Int)) = some l1.length := by
    rw [Array.findIdx?_eq_some_iff_getElem]
    refine ⟨hjs, ?_, fun i hi => ?_⟩
    · have : es[l1.length] = e0 := by rw [← hje]; simp
      rw [this]; simp
    · have hi' : i < es.size := Nat.lt_trans hi hjs
      have hne : es[i].born ≠ e0.born := by
        intro q
        have hn := hst.2.1
        have h1 : (es.toList.map (·.born))[i]? = some e0.born := by
          rw [List.getElem?_map, List.getElem?_eq_getElem (by simpa using hi')]
          simp [q]
        have h2 : (es.toList.map (·.born))[l1.length]? = some e0.born := by
          rw [List.getElem?_map, he]; rfl
        have := (List.getElem?_inj (by simpa using hi') hn).1 (h1.trans h2.symm)
        omega
      have : ((es[i].born : Nat) : Int) ≠ (e0.born : Int) := by omega
      simpa using this
  have hlist : (es.modify l1.length (fun e' => { e' with val := val })).toList = es.toList.set l1.length { e0 with val := val } := by rw [Array.toList_modify, ChangeMaps.modify_eq_set _ _ _ _ he]
  refine ⟨setBlock w b (.map (es.modify l1.length (fun e' => { e' with val := val })) c), ?_, ⟨_, _, ⟨heap_setBlock_same h.heap _, stamped_modify h.st _ _ (fun _ _ => rfl) (fun _ _ _ => rfl), ?_⟩, ?_⟩, grown_at h.heap, by simp [setBlock]⟩
  · simp [Instr.entryStore, MapKept.run_getObj_map h.heap, asInt, asIntOf, hfi, MapKept.run_setObj_map _ h.heap, Result.andThen, setBlock]
  · intro x hx
    rw [hlist] at hx
    rcases List.mem_or_eq_of_mem_set hx with hx | rfl
    · exact h.keys x hx
    · exact h.keys e0 (List.mem_of_getElem? he)
  · have e1 : (e0.key, e0.val) = (key, v0) := by
      have h1 : (kv es.toList)[l1.length]? = some (e0.key, e0.val) := by unfold kv; rw [List.getElem?_map, he]; rfl
      rw [hl] at h1
      simpa using h1.symm
    injection e1 with ek ev
    have e2 : kv (es.toList.set l1.length { e0 with val := val }) = (kv es.toList).set l1.length (key, val) := by
      unfold kv; rw [List.map_set, ← ek]
    rw [hlist, e2, hl]
    simp

/-- 'range m' -/
theorem Mp.range {t e : TypeId} (ht : P.underlying t = some (.map k e)) (h : Mp P k w b l) :
    ∃ w', (Instr.range t (.map (some b))).run P w = .ok (.pointer (some ⟨w.heap.size, 0, none⟩)) w' ∧ It P k w' b w.heap.size l l ∧ Below w.heap.size w w' ∧ w'.heap.size = w.heap.size + 1 := by
  have hlt := h.lt
  obtain ⟨es, c, h, rfl⟩ := h
  refine ⟨_, run_range_map w t k e b es c ht h.heap, ⟨es, c, c, #[], c, ⟨((MapKept.heap_alloc w _).2 b hlt).trans h.heap, h.st, h.keys⟩, rfl, (MapKept.heap_alloc w _).1, h.st.1, Nat.le_refl _, Nat.le_refl _, ?_⟩, boxed _ _, by simp⟩
  unfold leftOf
  rw [Array.filter_eq_self.2 (by simp)]

end
end Go.Proofs.Ytiaocahcdbikhaa
