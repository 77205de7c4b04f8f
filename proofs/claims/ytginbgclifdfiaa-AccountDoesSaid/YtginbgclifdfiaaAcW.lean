/- Reverse. -/
import Derived.Test.YtginbgclifdfiaaAcV
namespace Go.Proofs.Ytginbgclifdfiaa
open Go.RowKit

def turned1 (S : Ld) (i : Nat) : Ld := { S with L := S.L.modify i turn }
theorem turned_two (S : Ld) (i j : Nat) : turned S i j = turned1 (turned1 S i) j := rfl
theorem fine_turned1 {S : Ld} (F : Fine S) (i : Nat) : Fine (turned1 S i) := by
  refine ⟨F.n0, F.n1, F.op, by show (S.L.modify i turn).length ≤ 5000; simpa using F.few, fun e hE => ?_, fun a c q h0 h1 => ?_, fun a c q h0 h1 => ?_⟩
  · rcases mem_modify hE with h | ⟨e0, h, rfl⟩
    · exact F.ok e h
    · have k := F.ok e0 h; exact ⟨k.p0, k.p1, k.well, k.even, k.am⟩
  · show Am (rng a c q q (S.L.modify i turn)); rw [rng_modify]; exact F.mov a c q h0 h1
  · show Am (rng a c 0 q (S.L.modify i turn)); rw [rng_modify]; exact F.bal a c q h0 h1
theorem entC_get : ∀ (L : List En) (vs : List Value) (i : Nat) (e : En) (v : Value), L[i]? = some e → vs[i]? = some v → (entC L vs)[i * 3]? = some (.int .i64 e.per) ∧ (entC L vs)[i * 3 + 1]? = some v ∧ (entC L vs)[i * 3 + 2]? = some (.bool e.tu)
  | [], _, _, _, _, h, _ => by simp at h
  | _ :: _, [], _, _, _, _, h => by simp at h
  | x :: L, u :: vs, 0, e, v, h, h' => by simp at h h'; subst h; subst h'; exact ⟨rfl, rfl, rfl⟩
  | x :: L, u :: vs, i + 1, e, v, h, h' => by
    obtain ⟨h1, h2, h3⟩ := entC_get L vs i e v (by simpa using h) (by simpa using h')
    have e1 : (i + 1) * 3 = i * 3 + 3 := by omega
    rw [e1]
    refine ⟨?_, ?_, ?_⟩
    · simpa [entC] using h1
    · simpa [entC] using h2
    · simpa [entC] using h3
theorem entC_turn : ∀ (L : List En) (vs : List Value) (i : Nat), vs.length = L.length → i < L.length → entC (L.modify i turn) vs = (entC L vs).set (i * 3 + 2) (.bool true)
  | [], _, _, _, h => by simp at h
  | _ :: _, [], _, h, _ => by simp at h
  | x :: L, u :: vs, 0, _, _ => rfl
  | x :: L, u :: vs, i + 1, h, h' => by
    have := entC_turn L vs i (by simpa using h) (by simpa using h')
    rw [List.modify_succ_cons]
    simp only [entC, this]
    rw [show (i + 1) * 3 + 2 = (i * 3 + 2) + 3 by omega]
    rfl
section
variable {w w' : World} {p m : Nat} {S : Ld} {f : Int → Int → Int → Int} {ve : Value} {vs : List Value} {rows : List (Int × Int × Nat)} {O : Nat → Prop}
/-- an entry is turned -/
theorem Lgw.turn {g n c : Nat} (h : Lgw w p S f m (.slice (some ⟨g, 0, none⟩) n c) vs rows) (i : Nat) (hi : i < S.L.length) : Lgw (w.setCell ⟨g, i * 3 + 2, none⟩ (.bool true)) p (turned1 S i) f m (.slice (some ⟨g, 0, none⟩) n c) vs rows := by
  have hn : n = S.L.length := by
    rcases h.ents.2 with ⟨e, _⟩ | ⟨_, _, _, e, _⟩
    · cases e
    · injection e
  subst hn
  obtain ⟨cur, hh⟩ : ∃ cur, Has w g 77 cur := by
    rcases h.ents.2 with ⟨e, _⟩ | ⟨g', c', cur, e, _, hh, _⟩
    · cases e
    · injection e with e
      injection e with e
      obtain rfl : g = g' := by injection e
      exact ⟨cur, hh⟩
  refine ⟨h.head.off (p := ⟨g, i * 3 + 2, none⟩) (h.head.ne hh (by decide)) _, ?_, ?_, fun j e v he hv => ?_, h.tbl.keep (setCell_heap _ _ _ _ (fun e => has_map hh h.tbl.map e.symm)) fun y hy => setCell_heap _ _ _ _ ((h.tbl.row y hy).ne hh (by decide)), fine_turned1 h.fine i⟩
  · show (w.setCell _ _).ownsRow 0 77 3 _ (S.L.modify i Go.Proofs.Ytginbgclifdfiaa.turn).length (entC (S.L.modify i Go.Proofs.Ytginbgclifdfiaa.turn) vs)
    rw [entC_turn _ _ _ h.lens hi, List.length_modify]
    exact own_set h.ents _ _
  · show vs.length = (S.L.modify i _).length
    rw [List.length_modify]; exact h.lens
  · have he' : (S.L.modify i Go.Proofs.Ytginbgclifdfiaa.turn)[j]? = some e := he
    rw [List.getElem?_modify] at he'
    obtain ⟨e0, h0, h1⟩ := Option.map_eq_some_iff.1 he'
    have hps : e.ps = e0.ps := by rw [← h1]; split <;> rfl
    have := h.each j e0 v h0 hv
    rw [hps]
    exact own_keep this fun k hk => setCell_heap _ _ _ _ (own_type this hh (by decide) k hk)

def RevR (w : World) (p : Nat) (S : Ld) (O : Nat → Prop) (i q : Int) (e : Ending) (w' : World) : Prop :=
  e = .returned (.tuple #[.int .i64 (revN S i q), .int .i64 (revE S i q)]) ∧ LgR w p O (revS S i q) w'
theorem rev_not {i q : Int} {E : Int} (h : revE S i q = E) (hE : E ≠ 0) : revN S i q = 0 ∧ revS S i q = S := by
  unfold revN revS
  rw [h, if_neg hE, if_neg hE]
  exact ⟨rfl, rfl⟩
/-- what an entry's cells hold -/
theorem Lgw.at (h : Lgw w p S f m ve vs rows) {i : Nat} {e : En} (he : S.L[i]? = some e) :
    ∃ g c v, ve = .slice (some ⟨g, 0, none⟩) S.L.length c ∧ w.cell? ⟨g, i * 3, none⟩ = some (.int .i64 e.per) ∧ w.cell? ⟨g, i * 3 + 1, none⟩ = some v ∧ w.cell? ⟨g, i * 3 + 2, none⟩ = some (.bool e.tu) ∧
      (∀ j, w.frozen? ⟨g, j, none⟩ = false) ∧ w.ownsRow 0 48 3 v e.ps.length (flat e.ps) ∧ Has w p 63 #[.int .i64 (S.n : Int), .int .i64 (S.op : Int), ve, .map (some m)] ∧ p ≠ g := by
  have hi := (List.getElem?_eq_some_iff.1 he).1
  obtain ⟨v, hv⟩ : ∃ v, vs[i]? = some v := ⟨vs[i]'(by rw [h.lens]; exact hi), List.getElem?_eq_getElem _⟩
  obtain ⟨e1, e2, e3⟩ := entC_get S.L vs i e v he hv
  rcases h.ents.2 with ⟨_, e0⟩ | ⟨g, c, cur, rfl, _, hh, _⟩
  · omega
  · have k1 := World.ownsRow.cellAt (w := w) h.ents (i * 3) (by omega)
    have k2 := World.ownsRow.cellAt (w := w) h.ents (i * 3 + 1) (by omega)
    have k3 := World.ownsRow.cellAt (w := w) h.ents (i * 3 + 2) (by omega)
    rw [e1] at k1; rw [e2] at k2; rw [e3] at k3
    have hh' : Has w g 77 cur := hh
    exact ⟨g, c, v, rfl, k1, k2, k3, fun j => hh'.free j, h.each i e v he hv, h.head, h.head.ne hh' (by decide)⟩
theorem ent_am {n : Nat} {e : En} (h : EnOk n e) : Ams e.ps := fun x hx => by
  have := knB_iff.1 ((well_iff.1 h.well).2.2 x hx)
  exact ⟨by unfold Am; omega, by unfold Am; omega, h.am x hx⟩
theorem neg_ams {n : Nat} {e : En} (h : EnOk n e) (hl : leastB e.ps = false) : Ams (negP e.ps) := fun y hy => by
  obtain ⟨x, hx, rfl⟩ := List.mem_map.1 hy
  have := ent_am h x hx
  exact ⟨this.1, this.2.1, leastB_no hl h.am _ hy⟩

set_option maxRecDepth 100000 in
set_option maxHeartbeats 4000000 in
theorem reverse_none (i q : Int) (h : Lg w p S O) (hi : entB S i = false) :
    Calls Try.prog 27 #[.pointer (some ⟨p, 0, none⟩), .int .i64 i, .int .i64 q] w (RevR w p S O i q) := by
  have hE : revE S i q = 5 := by
    unfold revE
    by_cases h0 : i < 0
    · rw [if_pos h0]
    · rw [if_neg h0]
      have : S.L[i.toNat]? = none := by
        rw [List.getElem?_eq_none_iff]
        unfold entB at hi
        simp at hi
        have := hi (by omega)
        omega
      rw [this]
  obtain ⟨e1, e2⟩ := rev_not hE (by omega)
  have HL := Lib.hid h
  obtain ⟨m, ve, vs, rows, h, _⟩ := h
  obtain ⟨av, capv, rfl⟩ := own_form9 h.ents
  have HHas := Lib.hid (hasEntry_cells (w := w) (p := p) (S := S) i h.lc.2.2.1)
  rw [hi] at HHas
  unfold RevR
  rw [hE, e1, e2]
  clear h hi hE e1 e2
  go_enter Try.func27, Try.ntmps27
  go_wp2_with fail
  refine HHas.out.mono ?_
  rintro e w1 ⟨rfl, rfl⟩
  go_wp2_with fail
  go_ret2
  exact ⟨rfl, LgR.same HL.out (Below.refl _ _)⟩
set_option maxRecDepth 100000 in
set_option maxHeartbeats 4000000 in
theorem reverse_twice (k : Nat) (q : Int) (x : En) (h : Lg w p S O) (hx : S.L[k]? = some x) (ht : x.tu = true) :
    Calls Try.prog 27 #[.pointer (some ⟨p, 0, none⟩), .int .i64 (k : Int), .int .i64 q] w (RevR w p S O k q) := by
  have hk := (List.getElem?_eq_some_iff.1 hx).1
  have hE : revE S k q = 6 := by
    unfold revE
    rw [if_neg (by omega), show ((k : Int)).toNat = k by omega, hx]
    simp [ht]
  obtain ⟨e1, e2⟩ := rev_not hE (by omega)
  have HL := Lib.hid h
  obtain ⟨m, ve, vs, rows, h, _⟩ := h
  obtain ⟨g, c, v, rfl, k1, k2, k3, kf, _, hh, _⟩ := h.at hx
  have c2 := h.lc.2.2.1
  have HHas := Lib.hid (hasEntry_cells (w := w) (p := p) (S := S) (k : Int) c2)
  rw [show entB S (k : Int) = true by unfold entB; simp; exact hk] at HHas
  rw [ht] at k3
  have i1 : (0 : Int) ≤ (k : Int) := by omega
  have i2 : (k : Int) < (S.L.length : Int) := by omega
  have i3 : ((k : Int)).toNat = k := by omega
  unfold RevR
  rw [hE, e1, e2]
  clear h hx hE e1 e2 hh kf ht k1 k2
  go_enter Try.func27, Try.ntmps27
  go_wp2_with fail
  refine HHas.out.mono ?_
  rintro e w1 ⟨rfl, rfl⟩
  go_wp2_with fail
  go_ret2
  exact ⟨rfl, LgR.same HL.out (Below.refl _ _)⟩
end
end Go.Proofs.Ytginbgclifdfiaa
