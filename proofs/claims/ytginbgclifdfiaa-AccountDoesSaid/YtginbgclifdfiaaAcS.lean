/- An entry more. -/
import Derived.Test.YtginbgclifdfiaaAcR
namespace Go.Proofs.Ytginbgclifdfiaa
open Go.RowKit

theorem infoEnt : (Try.prog.info? 77).map (fun i => (i.zero, i.size, i.bytes)) = some (some (.agg #[.int .i64 0, .slice none 0 0, .bool false]), 3, 40) := by kernel_rfl
theorem entC_snoc (e : En) (v : Value) : ∀ (l : List En) (vs : List Value), vs.length = l.length → entC (l ++ [e]) (vs ++ [v]) = entC l vs ++ [.int .i64 e.per, v, .bool e.tu]
  | [], [], _ => rfl
  | [], _ :: _, h => by simp at h
  | _ :: _, [], h => by simp at h
  | x :: l, u :: vs, h => by
    have := entC_snoc e v l vs (by simpa using h)
    simp only [List.cons_append, entC, this]
theorem entC_len : ∀ (l : List En) (vs : List Value), vs.length = l.length → (entC l vs).length = l.length * 3
  | [], [], _ => rfl
  | [], _ :: _, h => by simp at h
  | _ :: _, [], h => by simp at h
  | x :: l, u :: vs, h => by
    have := entC_len l vs (by simpa using h)
    simp only [entC, List.length_cons, this]; omega
section
variable {w w' : World} {p m : Nat} {S : Ld} {f : Int → Int → Int → Int} {ve : Value} {vs : List Value} {rows : List (Int × Int × Nat)} {O : Nat → Prop}
/-- what an entry more leaves -/
structure PushR (W : World) (p : Nat) (S : Ld) (m : Nat) (ve : Value) (vs : List Value) (rows : List (Int × Int × Nat)) (v1 v' : Value) (w5 : World) : Prop where
  form : ∃ A c, v' = .slice A (S.L.length) c
  lgw : Lgw (w5.setCell ⟨p, 2, none⟩ v') p S (fun a c q => rng a c q q S.L) m v' (vs ++ [v1]) rows
  cell : w5.cell? ⟨p, 2, none⟩ = some ve
  free : w5.frozen? ⟨p, 2, none⟩ = false
  kp : Kp (fun b => b = p ∨ ve.ownBlock = some b) W (w5.setCell ⟨p, 2, none⟩ v')
  blk : ∀ j, v'.ownBlock = some j → ve.ownBlock = some j ∨ W.heap.size ≤ j
theorem Lgw.push (ty : TypeId) {W w1 : World} {k : Int} {ps : List Po} {v1 : Value} (h : Lgw W p S f m ve vs rows) (hF : Fine (posted S k ps)) (hf : f = fun a c q => rng a c q q (posted S k ps).L)
    (hb : Below W.heap.size W w1) (h1 : w1.ownsRow W.heap.size 48 3 v1 ps.length (flat ps)) :
    ∃ v' w5, (Builtin.append_ #[61, 61] ty #[ve, .slice (some ⟨w1.heap.size, 0, none⟩) 1 1]).run Try.prog (w1.alloc (.cells #[.int .i64 k, v1, .bool false] 77)) = .ok v' w5 ∧ PushR W p (posted S k ps) m ve vs rows v1 v' w5 := by
  subst hf
  obtain ⟨i, hi, hz0, hz1, hz2⟩ := info_parts infoEnt
  have hfew := hF.few
  have hlen : (posted S k ps).L.length = S.L.length + 1 := by show (S.L ++ [_]).length = _; simp
  obtain ⟨a1, c1, e1⟩ := own_form9 h1
  have hb2 : Below W.heap.size W (w1.alloc (.cells #[.int .i64 k, v1, .bool false] 77)) := hb.alloc hb.size _
  have hown2 := own_keep h.ents (w' := w1.alloc (.cells #[.int .i64 k, v1, .bool false] 77)) fun g hg => hb2.block g (own_ltb h.ents hg)
  have hx := Has.fresh w1 77 #[.int .i64 k, v1, .bool false]
  obtain ⟨v', w5, hr, ho, hg, _, hl⟩ := run_append_own_at (P := Try.prog) (w1.alloc (.cells #[.int .i64 k, v1, .bool false] 77)) 0 61 ty 77 i _ 3 40 Try.underlying61 hi hz0 hz1 hz2 rfl (by decide) ve S.L.length (entC S.L vs) hown2 ⟨w1.heap.size, 0, none⟩ 1 1 [.int .i64 k, v1, .bool false] (by simp)
    (fun j u hj => by
      rw [addr_off, Nat.zero_add, hx.cell]
      rw [← List.getElem?_toArray] at hj
      exact hj)
    (fun u hu => by
      simp at hu
      rcases hu with rfl | rfl | rfl
      · rfl
      · rw [e1]; rfl
      · rfl) (by unfold maxLen; omega) (by omega) (Nat.zero_le _)
  have hps : p < W.heap.size := h.head.lt
  have hpn : some p ≠ ve.ownBlock := fun e => own_type h.ents h.head (by decide) p e.symm rfl
  have hh5 : Has w5 p 63 #[.int .i64 (S.n : Int), .int .i64 (S.op : Int), ve, .map (some m)] :=
    (hg.block p (Nat.lt_of_lt_of_le hps hb2.size) hpn).trans ((hb2.block p hps).trans h.head)
  have kp : ∀ b, b < W.heap.size → ve.ownBlock ≠ some b → b ≠ p → (w5.setCell ⟨p, 2, none⟩ v').heap[b]? = W.heap[b]? := fun b h1 h2 h3 =>
    (setCell_heap w5 ⟨p, 2, none⟩ v' b h3).trans ((hg.block b (Nat.lt_of_lt_of_le h1 hb2.size) (fun e => h2 e.symm)).trans (hb2.block b h1))
  refine ⟨v', w5, hr, ?_, ?_, hh5.cell 2, hh5.free 2, ?_, fun j hj => ?_⟩
  · rw [hlen]; exact own_form9 ho
  · have hent : (w5.setCell ⟨p, 2, none⟩ v').ownsRow 0 77 3 v' (posted S k ps).L.length (entC (posted S k ps).L (vs ++ [v1])) := by
      have e2 : entC (posted S k ps).L (vs ++ [v1]) = entC S.L vs ++ [.int .i64 k, v1, .bool false] := entC_snoc ⟨k, ps, false⟩ v1 S.L vs h.lens
      rw [hlen, e2]
      refine own_keep ho fun g hgv => setCell_heap w5 ⟨p, 2, none⟩ v' g ?_
      exact own_type ho hh5 (by decide) g hgv
    have hne_row : ∀ y ∈ rows, ve.ownBlock ≠ some y.2.2 := fun y hy e => own_type h.ents (h.tbl.row y hy) (by decide) _ e rfl
    refine ⟨?_, hent, ?_, fun j e v he hv => ?_, ?_, hF⟩
    · have := hh5.put 2 v'
      exact this
    · rw [hlen, List.length_append, h.lens]; rfl
    · by_cases hj : j < S.L.length
      · have he' : S.L[j]? = some e := by
          have : (S.L ++ [(⟨k, ps, false⟩ : En)])[j]? = some e := he
          rwa [List.getElem?_append_left hj] at this
        have hv' : vs[j]? = some v := by
          rwa [List.getElem?_append_left (by rw [h.lens]; exact hj)] at hv
        have hp := h.each j e v he' hv'
        refine own_keep hp fun g hgv => kp g (own_ltb hp hgv) (fun e3 => ?_) (own_type hp h.head (by decide) g hgv)
        rcases h.ents.2 with ⟨rfl, _⟩ | ⟨g', cap, cur, rfl, _, h6, _⟩
        · cases e3
        · injection e3 with e3
          have e3' : g' = g := e3
          subst e3'
          exact own_type hp (show Has W g' 77 cur from h6) (by decide) _ hgv rfl
      · have hj2 : j = S.L.length := by
          have := (List.getElem?_eq_some_iff.1 he).1
          have e4 : (posted S k ps).L.length = S.L.length + 1 := hlen
          omega
        subst hj2
        have he' : e = ⟨k, ps, false⟩ := by
          have : (S.L ++ [(⟨k, ps, false⟩ : En)])[S.L.length]? = some e := he
          simpa using this.symm
        have hv' : v = v1 := by
          rw [← h.lens] at hv
          simpa using hv.symm
        subst he'; subst hv'
        show (w5.setCell ⟨p, 2, none⟩ v').ownsRow 0 48 3 v ps.length (flat ps)
        have h2 : (w1.alloc (.cells #[.int .i64 k, v, .bool false] 77)).ownsRow 0 48 3 v ps.length (flat ps) := by
          refine own_keep ⟨h1.1, ?_⟩ fun g hgv => heap_alloc_old w1 _ (own_ltb h1 hgv)
          rcases h1.2 with h2 | ⟨g, cap, cur, e5, _, h6⟩
          · exact .inl h2
          · exact .inr ⟨g, cap, cur, e5, Nat.zero_le _, h6⟩
        refine own_keep h2 fun g hgv => ?_
        have hgn : W.heap.size ≤ g := (World.ownsRow.lt h1 g hgv).1
        refine (setCell_heap w5 ⟨p, 2, none⟩ v' g (by simp; omega)).trans (hg.block g (own_ltb h2 hgv) (fun e3 => ?_))
        have := own_ltb h.ents e3.symm
        omega
    · have hpt : ∀ y ∈ rows, y.2.2 ≠ p := fun y hy => ((h.tbl.row y hy).ne h.head (by decide))
      refine h.tbl.keep (kp m h.tbl.map.lt (fun e => own_map h.ents h.tbl.map m e rfl) (fun e => has_map h.head h.tbl.map e.symm)) fun y hy => kp _ (h.tbl.row y hy).lt (hne_row y hy) (hpt y hy)
  · refine ⟨?_, ?_, ?_, ?_, fun b h1 h2 => kp b h1 (fun e => h2 (.inr e)) (fun e => h2 (.inl e))⟩
    · exact hg.os.trans hb2.os
    · exact hg.tape.trans hb2.tape
    · exact hg.output.trans hb2.output
    · have := hg.size; have := hb2.size; simp [World.setCell] at *; omega
  · rcases hl with hl | hl
    · rw [hl] at hj; exact .inl hj
    · rw [hl] at hj; injection hj with hj
      have := hb2.size
      refine .inr ?_
      rw [← hj]; exact this
end
end Go.Proofs.Ytginbgclifdfiaa
