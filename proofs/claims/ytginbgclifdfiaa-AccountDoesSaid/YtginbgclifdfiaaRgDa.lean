/- The reference's Post: the ledger with an entry more. -/
import Derived.Test.YtginbgclifdfiaaRgC
namespace Go.Proofs.Ytginbgclifdfiaa
open Go.RowKit

/-- a step at this very world -/
theorem at_w {P : Program} {ops : Array Oper} {o : Oper} {a : Act} {K : Act → World → Prop} {Q : Exit → Act → World → Prop} {E : Prop} (w : World) (h : if Region.wanted o (yielded ops a.tmps) = true then Oper.wp P o a w K Q else E) : if Region.wanted o (yielded ops a.tmps) = true then Oper.wp P o a w K Q else E := h
theorem infoREnt : (Try.prog.info? 52).map (fun i => (i.zero, i.size, i.bytes)) = some (some (.agg #[.int .i64 0, .slice none 0 0, .bool false]), 3, 40) := by kernel_rfl
theorem own_base0 {w : World} {base e size n : Nat} {v : Value} {xs : List Value} (h : w.ownsRow base e size v n xs) : w.ownsRow 0 e size v n xs := by
  refine ⟨h.1, ?_⟩
  rcases h.2 with h2 | ⟨g, cap, cur, e5, _, h6⟩
  · exact .inl h2
  · exact .inr ⟨g, cap, cur, e5, Nat.zero_le _, h6⟩
theorem entC_one : ∀ {L : List En} {vs : List Value}, (∀ v ∈ vs, ∃ a n c, v = .slice a n c) → ∀ u ∈ entC L vs, u.oneCell' = true
  | [], _, _, u, hu => by simp [entC] at hu
  | _ :: _, [], _, u, hu => by simp [entC] at hu
  | e :: l, v :: vs, h, u, hu => by
    simp only [entC, List.mem_cons] at hu
    rcases hu with rfl | rfl | rfl | hu
    · rfl
    · obtain ⟨a, n, c, rfl⟩ := h u (by simp); rfl
    · rfl
    · exact entC_one (fun v hv => h v (by simp [hv])) u hu
section
variable {w w' W : World} {r : Nat} {S : Ld} {ve : Value} {vs : List Value} {O : Nat → Prop}
theorem Rlw.slices (h : Rlw w r S ve vs) : ∀ v ∈ vs, ∃ a n c, v = .slice a n c := fun v hv => by
  obtain ⟨i, hi⟩ := List.getElem?_of_mem hv
  have hl : i < S.L.length := by have := (List.getElem?_eq_some_iff.1 hi).1; rw [h.lens] at this; exact this
  obtain ⟨a, c, rfl⟩ := own_form9 (h.each i _ v (List.getElem?_eq_getElem hl) hi)
  exact ⟨_, _, _, rfl⟩
theorem app1 (ty : TypeId) {g : Nat} (h : Rlw w r S ve vs) (hb : Below w.heap.size w W) (hg : Has W g 52 #[]) (hgs : w.heap.size ≤ g) (hfew : S.L.length ≤ 5000) :
    ∃ v1 W2, (Builtin.append_ #[41, 41] ty #[.slice (some ⟨g, 0, none⟩) 0 0, ve]).run Try.prog W = .ok v1 W2 ∧ W2.ownsRow w.heap.size 52 3 v1 S.L.length (entC S.L vs) ∧ W.grownBy W2 (some g) := by
  obtain ⟨i, hi, hz0, hz1, hz2⟩ := info_parts infoREnt
  have hown : W.ownsRow w.heap.size 52 3 (.slice (some ⟨g, 0, none⟩) 0 0) 0 [] := ⟨rfl, .inr ⟨g, 0, #[], rfl, hgs, hg, Nat.le_refl _, by unfold maxLen; omega, rfl, rfl⟩⟩
  have hents := own_keep h.ents (w' := W) fun b hb' => hb.block b (own_ltb h.ents hb')
  rcases hents.2 with ⟨rfl, h0⟩ | ⟨b, c, cur, rfl, _⟩
  · have hnil : entC S.L vs = [] := by
      rw [List.eq_nil_of_length_eq_zero h0]; rfl
    rw [hnil, h0]
    refine ⟨.slice (some ⟨g, 0, none⟩) 0 0, W, ?_, hown, ⟨rfl, rfl, rfl, Nat.le_refl _, fun _ _ _ => rfl⟩⟩
    simp [Builtin.append_, run_underlying Try.underlying41, sizeOf, typeInfo, hi, Builtin.lenOf, Builtin.firstCells, loadCells, loadCellsFrom, storeCells]
  · obtain ⟨v', w5, hr, ho, hg5, _⟩ := run_append_own (P := Try.prog) W w.heap.size 41 ty 52 i _ 3 40 Try.underlying41 hi hz0 hz1 hz2 rfl (by decide) _ 0 [] hown ⟨b, 0, none⟩ S.L.length c (entC S.L vs) (by rw [entC_len _ _ h.lens])
      (fun j u hj => by
        have hj' := (List.getElem?_eq_some_iff.1 hj).1
        have := World.ownsRow.cellAt (w := W) hents j (by rw [← entC_len _ _ h.lens]; exact hj')
        rw [addr_off, Nat.zero_add, this]; exact hj)
      (entC_one h.slices) (by unfold maxLen; omega) (by omega) hb.size
    rw [List.nil_append, Nat.zero_add] at ho
    exact ⟨v', w5, hr, ho, hg5⟩
theorem app2 (ty : TypeId) {g n cap : Nat} {a : Option Addr} {ps : List Po} (hp : PsA W a ps) (hn : ps.length = n) (hg : Has W g 48 #[]) {B : Nat} (hgs : B ≤ g) (h1 : 1 ≤ n) (h2 : n ≤ 1000) :
    ∃ v1 W2, (Builtin.append_ #[32, 32] ty #[.slice (some ⟨g, 0, none⟩) 0 0, .slice a n cap]).run Try.prog W = .ok v1 W2 ∧ W2.ownsRow B 48 3 v1 n (flat ps) ∧ W.grownBy W2 (some g) := by
  obtain ⟨i, hi, hz0, hz1, hz2⟩ := info_parts infoPost
  have hown : W.ownsRow B 48 3 (.slice (some ⟨g, 0, none⟩) 0 0) 0 [] := ⟨rfl, .inr ⟨g, 0, #[], rfl, hgs, hg, Nat.le_refl _, by unfold maxLen; omega, rfl, rfl⟩⟩
  obtain ⟨ad, rfl⟩ : ∃ ad, a = some ad := by
    rcases hp with rfl | ⟨b, o, rfl, _⟩
    · simp at hn; omega
    · exact ⟨_, rfl⟩
  obtain ⟨v', w5, hr, ho, hg5, _⟩ := run_append_own (P := Try.prog) W B 32 ty 48 i _ 3 24 Try.underlying32 hi hz0 hz1 hz2 rfl (by decide) _ 0 [] hown ad n cap (flat ps) (by rw [flat_len, hn])
    (fun j u hj => by
      obtain ⟨i, x, r, rfl, hx, hu, hr⟩ := flat_get hj
      rcases hp with hp1 | ⟨b, o, e, hp1⟩
      · subst hp1; simp at hn; omega
      · obtain rfl : ad = ⟨b, o, none⟩ := Option.some.inj e
        rw [addr_off]
        have := hp1 i x hx
        match r, hr, hu with
        | 0, _, hu => simp [Po.cells] at hu; subst hu; exact this.1
        | 1, _, hu => simp [Po.cells] at hu; subst hu; exact this.2.1
        | 2, _, hu => simp [Po.cells] at hu; subst hu; exact this.2.2)
    (fun u hu => by
      obtain ⟨j, hj⟩ := List.getElem?_of_mem hu
      obtain ⟨i, x, r, rfl, hx, hu, hr⟩ := flat_get hj
      match r, hr, hu with
      | 0, _, hu => simp [Po.cells] at hu; subst hu; rfl
      | 1, _, hu => simp [Po.cells] at hu; subst hu; rfl
      | 2, _, hu => simp [Po.cells] at hu; subst hu; rfl) (by unfold maxLen; omega) (by omega) (by have := hg.lt; omega)
  rw [List.nil_append, Nat.zero_add] at ho
  exact ⟨v', w5, hr, ho, hg5⟩
theorem app3 (ty : TypeId) {B n : Nat} {k : Int} {v1 : Value} {ps : List Po} {a2 : Option Addr} {c2 : Nat} (hlens : vs.length = S.L.length) (h1 : W.ownsRow B 52 3 v1 S.L.length (entC S.L vs)) (hB : B ≤ W.heap.size) (hfew : S.L.length < 5000) :
    ∃ v3 W2, (Builtin.append_ #[41, 41] ty #[v1, .slice (some ⟨W.heap.size, 0, none⟩) 1 1]).run Try.prog (W.alloc (.cells #[.int .i64 k, .slice a2 n c2, .bool false] 52)) = .ok v3 W2 ∧ W2.ownsRow B 52 3 v3 (S.L.length + 1) (entC (posted S k ps).L (vs ++ [.slice a2 n c2])) ∧ (W.alloc (.cells #[.int .i64 k, .slice a2 n c2, .bool false] 52)).grownBy W2 v1.ownBlock := by
  obtain ⟨i, hi, hz0, hz1, hz2⟩ := info_parts infoREnt
  have hx := Has.fresh W 52 #[.int .i64 k, .slice a2 n c2, .bool false]
  have hown2 := own_keep h1 (w' := W.alloc (.cells #[.int .i64 k, .slice a2 n c2, .bool false] 52)) fun g hg => heap_alloc_old W _ (own_ltb h1 hg)
  obtain ⟨v', w5, hr, ho, hg5, _⟩ := run_append_own (P := Try.prog) (W.alloc (.cells #[.int .i64 k, .slice a2 n c2, .bool false] 52)) B 41 ty 52 i _ 3 40 Try.underlying41 hi hz0 hz1 hz2 rfl (by decide) v1 S.L.length (entC S.L vs) hown2 ⟨W.heap.size, 0, none⟩ 1 1 [.int .i64 k, .slice a2 n c2, .bool false] (by simp)
    (fun j u hj => by
      rw [addr_off, Nat.zero_add, hx.cell]
      rw [← List.getElem?_toArray] at hj
      exact hj)
    (fun u hu => by
      simp at hu
      rcases hu with rfl | rfl | rfl <;> rfl) (by unfold maxLen; omega) (by omega) (by simp; omega)
  have e2 : entC (posted S k ps).L (vs ++ [.slice a2 n c2]) = entC S.L vs ++ [.int .i64 k, .slice a2 n c2, .bool false] := entC_snoc ⟨k, ps, false⟩ _ S.L vs hlens
  rw [e2]
  exact ⟨v', w5, hr, ho, hg5⟩
/-- the ledger with an entry more, in a block of its own -/
structure Fin9 (w W : World) (mb : Nat) (S : Ld) (k : Int) (ps : List Po) (v3 : Value) (vs vs3 : List Value) : Prop where
  bel : Below w.heap.size w W
  rl : Rlw W mb (posted S k ps) v3 vs3
  own : ∀ g, v3.ownBlock = some g → w.heap.size ≤ g
  vs : ∀ v ∈ vs3, v ∈ vs ∨ ∀ g, v.ownBlock = some g → w.heap.size ≤ g
/-- from where entries are copied and an empty row of postings lies -/
theorem post_tail (ty ty' : TypeId) {W : World} {p cap : Nat} {a : Option Addr} {v1 : Value} (k : Int) (ps : List Po) (h : Rlw w r S ve vs) (hb : Below w.heap.size w W) (h1 : W.ownsRow w.heap.size 52 3 v1 S.L.length (entC S.L vs)) (hp : Has W p 48 #[]) (hpw : w.heap.size ≤ p) (hpa : PsA w a ps) (hl1 : 1 ≤ ps.length) (hl2 : ps.length ≤ 32) (hfew : S.L.length < 5000) :
    ∃ a2 c2 W4 a3 c3 W6, (Builtin.append_ #[32, 32] ty #[.slice (some ⟨p, 0, none⟩) 0 0, .slice a ps.length cap]).run Try.prog W = .ok (.slice a2 ps.length c2) W4 ∧
      (Builtin.append_ #[41, 41] ty' #[v1, .slice (some ⟨W4.heap.size, 0, none⟩) 1 1]).run Try.prog (W4.alloc (.cells #[.int .i64 k, .slice a2 ps.length c2, .bool false] 52)) = .ok (.slice a3 (S.L.length + 1) c3) W6 ∧
      Below w.heap.size w W4 ∧ Below w.heap.size w W6 ∧ Fin9 w (W6.alloc (.cells #[.int .i64 (S.n : Int), .int .i64 (S.op : Int), .slice a3 (S.L.length + 1) c3] 43)) W6.heap.size S k ps (.slice a3 (S.L.length + 1) c3) vs (vs ++ [.slice a2 ps.length c2]) := by
  obtain ⟨v2, W4, hr2, ho2, hg2⟩ := app2 ty (B := w.heap.size) (cap := cap) (hpa.up hb) rfl hp hpw hl1 (by omega)
  obtain ⟨a2, c2, rfl⟩ := own_form9 ho2
  have hb4 : Below w.heap.size w W4 := hb.grown hg2 hb.size (fun j hj => by injection hj with hj; omega)
  have h14 : W4.ownsRow w.heap.size 52 3 v1 S.L.length (entC S.L vs) := own_keep h1 fun g hg => hg2.block g (own_ltb h1 hg) (fun e => own_type h1 hp (by decide) g hg (by injection e))
  obtain ⟨v3, W6, hr3, ho3, hg3⟩ := app3 ty' (k := k) (ps := ps) (n := ps.length) (a2 := a2) (c2 := c2) h.lens h14 hb4.size hfew
  obtain ⟨a3, c3, rfl⟩ := own_form9 ho3
  have hb5 : Below w.heap.size w (W4.alloc (.cells #[.int .i64 k, .slice a2 ps.length c2, .bool false] 52)) := hb4.alloc hb4.size _
  have hb6 : Below w.heap.size w W6 := hb5.grown hg3 hb5.size (fun j hj => (World.ownsRow.lt h14 j hj).1)
  refine ⟨a2, c2, W4, a3, c3, W6, hr2, hr3, hb4, hb6, hb6.alloc hb6.size _, ?_, fun g hg => (World.ownsRow.lt ho3 g hg).1, fun v hv => ?_⟩
  · have hlen : (posted S k ps).L.length = S.L.length + 1 := by show (S.L ++ [_]).length = _; simp
    have up7 : ∀ {b : Nat}, b < W6.heap.size → (W6.alloc (.cells #[.int .i64 (S.n : Int), .int .i64 (S.op : Int), .slice a3 (S.L.length + 1) c3] 43)).heap[b]? = W6.heap[b]? := fun hb => heap_alloc_old W6 _ hb
    refine ⟨Has.fresh W6 43 #[.int .i64 (S.n : Int), .int .i64 (S.op : Int), .slice a3 (S.L.length + 1) c3], ?_, ?_, fun j e v he hv => ?_⟩
    · rw [hlen]
      exact own_keep (own_base0 ho3) fun g hg => up7 (own_ltb ho3 hg)
    · rw [hlen, List.length_append, h.lens]; rfl
    · by_cases hj : j < S.L.length
      · have he' : S.L[j]? = some e := by
          have : (S.L ++ [(⟨k, ps, false⟩ : En)])[j]? = some e := he
          rwa [List.getElem?_append_left hj] at this
        have hv' : vs[j]? = some v := by rwa [List.getElem?_append_left (by rw [h.lens]; exact hj)] at hv
        have hp' := h.each j e v he' hv'
        exact own_keep hp' fun g hgv => (hb6.alloc hb6.size _).block g (own_ltb hp' hgv)
      · have hj2 : j = S.L.length := by
          have := (List.getElem?_eq_some_iff.1 he).1
          omega
        subst hj2
        have he' : e = ⟨k, ps, false⟩ := by
          have : (S.L ++ [(⟨k, ps, false⟩ : En)])[S.L.length]? = some e := he
          simpa using this.symm
        have hv' : v = .slice a2 ps.length c2 := by
          rw [← h.lens] at hv
          simpa using hv.symm
        subst he'; subst hv'
        refine own_keep (own_base0 ho2) fun g hgv => ?_
        have hg4 := own_ltb ho2 hgv
        have hg5 : g < (W4.alloc (.cells #[.int .i64 k, .slice a2 ps.length c2, .bool false] 52)).heap.size := by simp; omega
        refine (up7 (Nat.lt_of_lt_of_le hg5 hg3.size)).trans ((hg3.block g hg5 (fun e3 => ?_)).trans (heap_alloc_old W4 _ hg4))
        rcases h14.2 with ⟨rfl, _⟩ | ⟨g', c', cur, rfl, _, h6, _⟩
        · cases e3
        · injection e3 with e3
          have e3' : g' = g := e3.symm
          subst e3'
          exact own_type ho2 (show Has W4 g' 52 cur from h6) (by decide) _ hgv rfl
  · rcases List.mem_append.1 hv with h | h
    · exact .inl h
    · rw [List.mem_singleton.1 h]
      exact .inr fun g hg => (World.ownsRow.lt ho2 g hg).1
theorem own_more {W : World} {base e size n : Nat} {v : Value} {xs : List Value} (h : W.ownsRow base e size v n xs) (o : Obj) : (W.alloc o).ownsRow base e size v n xs := own_keep h fun _ hg => heap_alloc_old W o (own_ltb h hg)
abbrev entO (k : Int) (a2 : Option Addr) (n c2 : Nat) : Obj := .cells #[.int .i64 k, .slice a2 n c2, .bool false] 52
abbrev ledO (S : Ld) (a3 : Option Addr) (c3 : Nat) : Obj := .cells #[.int .i64 (S.n : Int), .int .i64 (S.op : Int), .slice a3 (S.L.length + 1) c3] 43
theorem ord2 {g p cap : Nat} {a ea : Option Addr} {ec : Nat} (k : Int) (ps : List Po) (h : Rlw w r S (.slice ea S.L.length ec) vs) (hb : Below w.heap.size w W) (hg : Has W g 52 #[]) (hgs : w.heap.size ≤ g) (hp : Has W p 48 #[]) (hps : w.heap.size ≤ p) (hpa : PsA w a ps) (hl1 : 1 ≤ ps.length) (hl2 : ps.length ≤ 32) (hfew : S.L.length < 5000) (hrc : Rc w r S ea ec) :
    ∃ A1 C1 U2 a2 c2 W4 a3 c3 W6, (Builtin.append_ #[41, 41] 41 #[.slice (some ⟨g, 0, none⟩) 0 0, .slice ea S.L.length ec]).run Try.prog W = .ok (.slice A1 S.L.length C1) U2 ∧
      (Builtin.append_ #[32, 32] 32 #[.slice (some ⟨p, 0, none⟩) 0 0, .slice a ps.length cap]).run Try.prog U2 = .ok (.slice a2 ps.length c2) W4 ∧
      (Builtin.append_ #[41, 41] 41 #[.slice A1 S.L.length C1, .slice (some ⟨W4.heap.size, 0, none⟩) 1 1]).run Try.prog (W4.alloc (entO k a2 ps.length c2)) = .ok (.slice a3 (S.L.length + 1) c3) W6 ∧
      Rc W r S ea ec ∧ Rc U2 r S ea ec ∧ Rc W4 r S ea ec ∧ Rc (W4.alloc (entO k a2 ps.length c2)) r S ea ec ∧ Rc W6 r S ea ec ∧ Rc (W6.alloc (ledO S a3 c3)) r S ea ec ∧
      Fin9 w (W6.alloc (ledO S a3 c3)) W6.heap.size S k ps (.slice a3 (S.L.length + 1) c3) vs (vs ++ [.slice a2 ps.length c2]) := by
  obtain ⟨v1, U2, hr1, ho1, hg1⟩ := app1 41 h hb hg hgs (by omega)
  obtain ⟨A1, C1, rfl⟩ := own_form9 ho1
  have hb2 : Below w.heap.size w U2 := hb.grown hg1 hb.size (fun j hj => by injection hj with hj; omega)
  have hp2 : Has U2 p 48 #[] := (hg1.block p hp.lt (fun e => hp.ne hg (by decide) (by injection e))).trans hp
  obtain ⟨a2, c2, W4, a3, c3, W6, hr2, hr3, hb4, hb6, hF⟩ := post_tail (cap := cap) 32 41 k ps h hb2 ho1 hp2 hps hpa hl1 hl2 hfew
  exact ⟨A1, C1, U2, a2, c2, W4, a3, c3, W6, hr1, hr2, hr3, hrc.up hb, hrc.up hb2, hrc.up hb4, hrc.up (hb4.alloc hb4.size _), hrc.up hb6, hrc.up (hb6.alloc hb6.size _), hF⟩
theorem ord1 {g cap : Nat} {a ea : Option Addr} {ec : Nat} (k : Int) (ps : List Po) (h : Rlw w r S (.slice ea S.L.length ec) vs) (hb : Below w.heap.size w W) (hg : Has W g 52 #[]) (hgs : w.heap.size ≤ g) (hpa : PsA w a ps) (hl1 : 1 ≤ ps.length) (hl2 : ps.length ≤ 32) (hfew : S.L.length < 5000) (hrc : Rc w r S ea ec) :
    ∃ A1 C1 U2 a2 c2 W4 a3 c3 W6, (Builtin.append_ #[41, 41] 41 #[.slice (some ⟨g, 0, none⟩) 0 0, .slice ea S.L.length ec]).run Try.prog W = .ok (.slice A1 S.L.length C1) U2 ∧
      (Builtin.append_ #[32, 32] 32 #[.slice (some ⟨U2.heap.size, 0, none⟩) 0 0, .slice a ps.length cap]).run Try.prog (U2.alloc (.cells #[] 48)) = .ok (.slice a2 ps.length c2) W4 ∧
      (Builtin.append_ #[41, 41] 41 #[.slice A1 S.L.length C1, .slice (some ⟨W4.heap.size, 0, none⟩) 1 1]).run Try.prog (W4.alloc (entO k a2 ps.length c2)) = .ok (.slice a3 (S.L.length + 1) c3) W6 ∧
      Rc W r S ea ec ∧ Rc U2 r S ea ec ∧ Rc (U2.alloc (.cells #[] 48)) r S ea ec ∧ Rc W4 r S ea ec ∧ Rc (W4.alloc (entO k a2 ps.length c2)) r S ea ec ∧ Rc W6 r S ea ec ∧ Rc (W6.alloc (ledO S a3 c3)) r S ea ec ∧
      Fin9 w (W6.alloc (ledO S a3 c3)) W6.heap.size S k ps (.slice a3 (S.L.length + 1) c3) vs (vs ++ [.slice a2 ps.length c2]) := by
  obtain ⟨v1, U2, hr1, ho1, hg1⟩ := app1 41 h hb hg hgs (by omega)
  obtain ⟨A1, C1, rfl⟩ := own_form9 ho1
  have hb2 : Below w.heap.size w U2 := hb.grown hg1 hb.size (fun j hj => by injection hj with hj; omega)
  have hb3 : Below w.heap.size w (U2.alloc (.cells #[] 48)) := hb2.alloc hb2.size _
  obtain ⟨a2, c2, W4, a3, c3, W6, hr2, hr3, hb4, hb6, hF⟩ := post_tail (cap := cap) 32 41 k ps h hb3 (own_more ho1 _) (Has.fresh U2 48 #[]) hb2.size hpa hl1 hl2 hfew
  exact ⟨A1, C1, U2, a2, c2, W4, a3, c3, W6, hr1, hr2, hr3, hrc.up hb, hrc.up hb2, hrc.up hb3, hrc.up hb4, hrc.up (hb4.alloc hb4.size _), hrc.up hb6, hrc.up (hb6.alloc hb6.size _), hF⟩
end
end Go.Proofs.Ytginbgclifdfiaa
