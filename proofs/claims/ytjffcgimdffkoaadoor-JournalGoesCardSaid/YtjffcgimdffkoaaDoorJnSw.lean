/- JournalSure: behind the restart. -/
import Derived.Test.YtjffcgimdffkoaaDoorJnSz
import Derived.Deep.RegionLaw
namespace Go.Proofs.YtjffcgimdffkoaaDoor
open Go.RowKit

section
variable {P : Program} {ops : Array Oper} {o : Oper} {a : Act} {w : World} {K : Act → World → Prop} {Q : Exit → Act → World → Prop} {E : Prop}
/-- an append in a region, by what it gives -/
theorem step_run (hgd : o.guard = none) (s x : Operand) (t : TypeId) (ho : o.op = .call { callee := .builtin .append, args := #[s, x], argTypes := #[t, t] }) (vs vx : Value) (hs : a.eval s = vs) (hx : a.eval x = vx)
    {S : Value → World → Prop} (hr : ∃ v' w', (Builtin.append_ #[t, t] o.type #[vs, vx]).run P w = .ok v' w' ∧ S v' w') (h : ∀ v' w', S v' w' → K (a.put o.dst v') w') :
    if Region.wanted o (yielded ops a.tmps) = true then Oper.wp P o a w K Q else E := by
  have hw : Region.wanted o (yielded ops a.tmps) = true := by simp [Region.wanted, hgd]
  rw [if_pos hw]
  obtain ⟨v', w', hr, hS⟩ := hr
  exact Lib.wp_append_run w s x t t ho vs vx hs hx v' w' hr (h v' w' hS)
end
theorem own_rw {w : World} {B n : Nat} {v : Value} {xs : List ByteArray} (h : w.ownsRow B 9 1 v n (xs.map Value.string)) (hl : xs.length = n) (hB : B < w.heap.size) : ∃ R, B ≤ R ∧ R < w.heap.size ∧ Rw w R v xs := by
  subst hl
  rcases h.2 with ⟨rfl, h0⟩ | ⟨g, c, cur, rfl, hb, hh, hc, hm, hs, ht⟩
  · exact ⟨B, Nat.le_refl _, hB, .inl ⟨rfl, List.eq_nil_of_length_eq_zero h0⟩⟩
  · have hH : Has w g 9 cur := hh
    refine ⟨g, hb, hH.lt, .inr ⟨0, c, cur, rfl, hH, by omega, hc, hm, fun j x e => ?_⟩⟩
    have hj : j < xs.length := by
      by_cases r : j < xs.length
      · exact r
      · rw [List.getElem?_eq_none (by omega)] at e; cases e
    rw [Nat.zero_add, ← Array.getElem?_toList, ← List.getElem?_take_of_lt (j := xs.length * 1) (by omega), ht, List.getElem?_map, e]
    rfl
/-- strings copied behind an empty row of one's own -/
def CopS (w : World) (g : Nat) (xs : List ByteArray) (v' : Value) (w' : World) : Prop := ∃ R, g ≤ R ∧ R < w'.heap.size ∧ Rw w' R v' xs ∧ Turn (fun k => k = g) w w'
theorem copy_any (ty : TypeId) (w : World) (g : Nat) (a : Option Addr) (c : Nat) (xs : List ByteArray) (hg : Has w g 9 #[]) (hX : StrA w a xs) (hN : xs.length ≤ 100000) (ha : a = none → c = 0) :
    ∃ v' w', (Builtin.append_ #[35, 35] ty #[.slice (some ⟨g, 0, none⟩) 0 0, .slice a xs.length c]).run Tryd.prog w = .ok v' w' ∧ CopS w g xs v' w' := by
  obtain ⟨i, hi, hz0, hz1, hz2⟩ := info_parts infoStr
  have hown : w.ownsRow g 9 1 (.slice (some ⟨g, 0, none⟩) 0 0) 0 [] := ⟨rfl, .inr ⟨g, 0, #[], rfl, Nat.le_refl _, hg, Nat.le_refl _, by unfold maxLen; omega, rfl, rfl⟩⟩
  cases a with
  | none =>
    have hc := ha rfl
    subst hc
    have hxs : xs = [] := by
      rcases hX with h | ⟨b, o, h, _⟩
      · exact h
      · cases h
    subst hxs
    refine ⟨_, _, run_append_owned_none w g 35 ty 9 i 1 Tryd.underlying35 hi _ 0 [] hown, g, Nat.le_refl _, hg.lt, .inr ⟨0, 0, #[], rfl, hg, by simp, by simp, by unfold maxLen; omega, fun j x e => by simp at e⟩, Turn.refl _ _⟩
  | some ad =>
    have hnews : ∀ (j : Nat) (u : Value), (xs.map Value.string)[j]? = some u → w.cell? (ad.add j) = some u := fun j u e => by
      rcases hX with rfl | ⟨b, o, h, hs⟩
      · simp at e
      · obtain rfl : ad = ⟨b, o, none⟩ := Option.some.inj h
        rw [addr_plus]
        rw [List.getElem?_map] at e
        cases hq : xs[j]? with
        | none => rw [hq] at e; cases e
        | some z => rw [hq] at e; cases e; exact hs j z hq
    obtain ⟨v', w', hr, ho, hgr, _⟩ := run_append_own (P := Tryd.prog) w g 35 ty 9 i _ 1 16 Tryd.underlying35 hi hz0 hz1 hz2 rfl (by decide) _ 0 [] hown ad xs.length c (xs.map Value.string) (by simp) hnews
      (fun u hu => by obtain ⟨z, _, rfl⟩ := List.mem_map.mp hu; rfl) (by unfold maxLen; omega) (by omega) (Nat.le_of_lt hg.lt)
    rw [List.nil_append, Nat.zero_add] at ho
    have hgw : g < w'.heap.size := Nat.lt_of_lt_of_le hg.lt hgr.size
    obtain ⟨R, h1, h2, h3⟩ := own_rw ho rfl hgw
    exact ⟨v', w', hr, R, h1, h2, h3, ⟨hgr.os, hgr.tape, hgr.output, hgr.size, fun k hk q => hgr.block k hk (fun e => q (Option.some.inj e))⟩⟩
/-- one more string behind a row -/
def MorS (w : World) (B R : Nat) (xs : List ByteArray) (v' : Value) (w' : World) : Prop := ∃ R', B ≤ R' ∧ R' < w'.heap.size ∧ Rw w' R' v' xs ∧ Turn (fun k => k = R) w w' ∧ ∃ a l c, v' = .slice a l c
theorem more_any (ty : TypeId) (w : World) (B R y : Nat) (v : Value) (xs : List ByteArray) (x : ByteArray) (h : Rw w R v xs) (hB : B ≤ R) (hBw : B ≤ w.heap.size) (hN : xs.length ≤ 100000) (hy : w.cell? ⟨y, 0, none⟩ = some (.string x)) :
    ∃ v' w', (Builtin.append_ #[35, 35] ty #[v, .slice (some ⟨y, 0, none⟩) 1 1]).run Tryd.prog w = .ok v' w' ∧ MorS w B R (xs ++ [x]) v' w' := by
  obtain ⟨R', v', w', hr, hR, hl, hrow, ht⟩ := h.app ty hN y x hy
  exact ⟨v', w', hr, R', by rcases hR with rfl | z <;> omega, hl, hrow, ht, hrow.slc⟩

theorem more_as (ty : TypeId) (w : World) (B R y : Nat) (v : Value) (xs xs' : List ByteArray) (x : ByteArray) (e : xs' = xs ++ [x]) (h : Rw w R v xs) (hB : B ≤ R) (hBw : B ≤ w.heap.size) (hN : xs.length ≤ 100000) (hy : w.cell? ⟨y, 0, none⟩ = some (.string x)) :
    ∃ v' w', (Builtin.append_ #[35, 35] ty #[v, .slice (some ⟨y, 0, none⟩) 1 1]).run Tryd.prog w = .ok v' w' ∧ MorS w B R xs' v' w' := by
  subst e
  exact more_any ty w B R y v xs x h hB hBw hN hy
theorem y_two {W w5 : World} {x : ByteArray} (t : Turn (fun k => k = W.heap.size) ((W.alloc (.cells #[] 9)).alloc (.cells #[.string x] 9)).drew w5) : w5.cell? ⟨W.heap.size + 1, 0, none⟩ = some (.string x) := by
  have h := Has.fresh (W.alloc (.cells #[] 9)) 9 #[.string x]
  rw [show (W.alloc (.cells #[] 9)).heap.size = W.heap.size + 1 by simp] at h
  exact (t.has h.drew1 (fun z => by omega)).cell 0
theorem y_three {W w5 : World} {x : ByteArray} (t : Turn (fun k => k = W.heap.size + 1) ((W.alloc (.cells #[.string x] 9)).alloc (.cells #[] 9)).drew w5) : w5.cell? ⟨W.heap.size, 0, none⟩ = some (.string x) := by
  have h := (Has.fresh W 9 #[.string x]).more (.cells #[] 9)
  exact (t.has h.drew1 (fun z => by omega)).cell 0
theorem row_three (W : World) (x : ByteArray) : Has ((W.alloc (.cells #[.string x] 9)).alloc (.cells #[] 9)).drew (W.heap.size + 1) 9 #[] := by
  have h := Has.fresh (W.alloc (.cells #[.string x] 9)) 9 #[]
  rw [show (W.alloc (.cells #[.string x] 9)).heap.size = W.heap.size + 1 by simp] at h
  exact h
theorem bel1 (W : World) (o : Obj) : Below W.heap.size W (W.alloc o).drew := blw (boxed _ _) 1
theorem bel2 (W : World) (o o' : Obj) : Below W.heap.size W ((W.alloc o).alloc o').drew := blw ((boxed _ _).alloc (by simp) _) 1
def Sto3 (w : World) (X : Nat) (T : ByteArray) (a : Option Addr) (n c Z : Nat) (x : ByteArray) : Prop := w.cell? ⟨X, 0, none⟩ = some (.string T) ∧ w.cell? ⟨X, 1, none⟩ = some (.slice a n c) ∧ w.cell? ⟨Z, 3, none⟩ = some (.string x)
theorem Sto3.up {w w' : World} {X n c Z : Nat} {T x : ByteArray} {a : Option Addr} (h : Sto3 w X T a n c Z x) (k : Below w.heap.size w w') : Sto3 w' X T a n c Z x := ⟨kcell k h.1, kcell k h.2.1, kcell k h.2.2⟩
theorem Sto3.al {w : World} {X n c Z : Nat} {T x : ByteArray} {a : Option Addr} (h : Sto3 w X T a n c Z x) (o : Obj) : Sto3 (w.alloc o) X T a n c Z x := h.up (boxed _ _)
theorem Sto3.off {w : World} {X n c Z Y i : Nat} {T x : ByteArray} {a : Option Addr} {v : Value} (h : Sto3 w X T a n c Z x) (h1 : X ≠ Y) (h2 : Z ≠ Y) : Sto3 (w.setCell ⟨Y, i, none⟩ v) X T a n c Z x := ⟨cset h.1 (.inl h1), cset h.2.1 (.inl h1), cset h.2.2 (.inl h2)⟩
theorem Rw.form {w : World} {R : Nat} {v : Value} {xs : List ByteArray} (h : Rw w R v xs) : ∃ a c, v = .slice a xs.length c ∧ StrA w a xs ∧ (a = none → c = 0) ∧ xs.length ≤ c := by
  rcases h with ⟨rfl, rfl⟩ | ⟨o, c, cs, rfl, hR, hf, hc, hm, hx⟩
  · exact ⟨none, 0, rfl, .inl rfl, fun _ => rfl, by simp⟩
  · refine ⟨_, c, rfl, .inr ⟨R, o, rfl, fun j x e => ?_⟩, (fun z => by cases z), hc⟩
    rw [hR.cell]; exact hx j x e
/-- what should be kept, in the box X: a text and strings in g, apart from the records in R -/
structure Told (w : World) (X R : Nat) (T : ByteArray) (a : Option Addr) (c : Nat) (xs : List ByteArray) (g : Nat) : Prop where
  box : Has w X 37 #[.string T, .slice a xs.length c]
  row : Rw w g (.slice a xs.length c) xs
  ne : g ≠ R
  lt : g < w.heap.size
section
variable {w w' : World} {X R g c : Nat} {T : ByteArray} {a : Option Addr} {xs : List ByteArray}
theorem Told.up (h : Told w X R T a c xs g) (k : Below w.heap.size w w') : Told w' X R T a c xs g :=
  ⟨h.box.up k, h.row.up k, h.ne, Nat.lt_of_lt_of_le h.lt k.size⟩
/-- through a call of the journal -/
theorem Told.call {J R' p b : Nat} {u : Value} {s : SS} {j : JS} {m : Int} (h : Told w X R T a c xs g) (H : Jat w J R p b u s j m)
    (k : Turn (fun k => k = J ∨ k = p ∨ k = b ∨ k = R) w w') (hR : R' = R ∨ w.heap.size ≤ R') (hX : X ≠ R) : Told w' X R' T a c xs g := by
  have hn := H.at_.st.nbox h.box (by decide) (by decide)
  have hj : X ≠ J := h.box.ne H.jv.head (by decide)
  refine ⟨k.has h.box (by omega), h.row.of fun cs hc => ?_, ?_, Nat.lt_of_lt_of_le h.lt k.size⟩
  · have hn2 := H.at_.st.nbox hc (by decide) (by decide)
    have hj2 : g ≠ J := hc.ne H.jv.head (by decide)
    have := h.ne
    exact k.has hc (by omega)
  · have := h.ne
    have := h.lt
    rcases hR with rfl | z <;> omega
/-- through a store into another box -/
theorem Told.off {Y i : Nat} {u : Value} (h : Told w X R T a c xs g) (h1 : X ≠ Y) (h2 : g ≠ Y) : Told (w.setCell ⟨Y, i, none⟩ u) X R T a c xs g :=
  ⟨h.box.off (p := ⟨Y, i, none⟩) h1 u, h.row.of fun cs hc => hc.off (p := ⟨Y, i, none⟩) h2 u, h.ne, by simpa [World.setCell] using h.lt⟩
theorem Told.strA (h : Told w X R T a c xs g) : StrA w a xs := by
  obtain ⟨a', c', e, hs, _⟩ := h.row.form
  injection e with e1 _ _
  rw [e1]; exact hs
theorem Told.nil (h : Told w X R T a c xs g) : a = none → c = 0 := by
  obtain ⟨a', c', e, _, hn, _⟩ := h.row.form
  injection e with e1 _ e3
  rw [e1, e3]; exact hn
end
end Go.Proofs.YtjffcgimdffkoaaDoor

namespace Go.Proofs.YtjffcgimdffkoaaDoor
open Go.RowKit

theorem Ses.store {w0 w w' : World} {J R p b : Nat} {v : Value} {s s' : SS} {j : JS} {m m' : Int} (H : Ses w0 w J R p b v s j m) (ha : At w' p b s' m') (hk : But p b w w') (hn : s'.n = s.n) : Ses w0 w' J R p b v s' j m' := by
  have hnk := H.jat.at_.st.nbox H.jat.jv.head (by decide) (by decide)
  have hl := H.lo
  refine ⟨⟨ha, ?_, H.jat.ne⟩, H.bel.trans (hk.below H.bel.size hl.2.2.1 hl.2.2.2), hl⟩
  rw [hn]
  exact H.jat.jv.but hk ⟨hnk.1, hnk.2⟩ H.jat.ne.2
theorem fu_B (s : SS) (k t : Int) : (fuS s k t).B = s.B := by unfold fuS; split <;> rfl
/-- a store into a box of one's own -/
theorem Ses.put {w0 w : World} {J R p b Y i t : Nat} {u v : Value} {s : SS} {j : JS} {m : Int} {cs : Array Value} (H : Ses w0 w J R p b v s j m) (hY : Has w Y t cs) (ht : t ≠ 55 ∧ t ≠ 72 ∧ t ≠ 63) (hR : R ≠ Y) (lo : w0.heap.size ≤ Y) : Ses w0 (w.setCell ⟨Y, i, none⟩ u) J R p b v s j m := by
  have hn := H.jat.at_.st.nbox hY ht.1 ht.2.1
  have hj : J ≠ Y := fun e => (hY.ne H.jat.jv.head ht.2.2) e.symm
  refine ⟨⟨⟨H.jat.at_.st.off hn.1 hn.2 u, H.jat.at_.fine⟩, ⟨H.jat.jv.head.off (p := ⟨Y, i, none⟩) hj u, H.jat.jv.recs.of fun cs hc => hc.off (p := ⟨Y, i, none⟩) hR u, by simpa [World.setCell] using H.jat.jv.lt⟩, H.jat.ne⟩, H.bel.setCell lo u, H.lo⟩
/-- the two boxes and what the journal tells -/
structure Bxs (w0 w : World) (F : Nat) (cs : Array Value) (X Y R : Nat) (T1 : ByteArray) (a1 : Option Addr) (c1 : Nat) (xs1 : List ByteArray) (g1 : Nat) (T2 : ByteArray) (a2 : Option Addr) (c2 : Nat) (xs2 : List ByteArray) (g2 : Nat) : Prop where
  one : Told w X R T1 a1 c1 xs1 g1
  two : Told w Y R T2 a2 c2 xs2 g2
  fus : Has w F 24 cs
  fne : F ≠ X ∧ F ≠ Y ∧ F ≠ R
  ne : X ≠ Y ∧ X ≠ R ∧ Y ≠ R ∧ g1 ≠ X ∧ g1 ≠ Y ∧ g2 ≠ X ∧ g2 ≠ Y
  lo : w0.heap.size ≤ X ∧ w0.heap.size ≤ Y ∧ w0.heap.size ≤ g1 ∧ w0.heap.size ≤ g2
  len : xs1.length ≤ 1000 ∧ xs2.length ≤ 1000
section
variable {w0 w w' : World} {F : Nat} {cs : Array Value} {X Y R g1 c1 g2 c2 : Nat} {T1 T2 : ByteArray} {a1 a2 : Option Addr} {xs1 xs2 : List ByteArray}
theorem Bxs.up (h : Bxs w0 w F cs X Y R T1 a1 c1 xs1 g1 T2 a2 c2 xs2 g2) (k : Below w.heap.size w w') : Bxs w0 w' F cs X Y R T1 a1 c1 xs1 g1 T2 a2 c2 xs2 g2 := ⟨h.one.up k, h.two.up k, h.fus.up k, h.fne, h.ne, h.lo, h.len⟩
theorem Bxs.call {J R' p b : Nat} {u : Value} {s : SS} {j : JS} {m : Int} (h : Bxs w0 w F cs X Y R T1 a1 c1 xs1 g1 T2 a2 c2 xs2 g2) (H : Jat w J R p b u s j m)
    (k : Turn (fun k => k = J ∨ k = p ∨ k = b ∨ k = R) w w') (hR : R' = R ∨ w.heap.size ≤ R') : Bxs w0 w' F cs X Y R' T1 a1 c1 xs1 g1 T2 a2 c2 xs2 g2 := by
  have hl1 := h.one.box.lt
  have hl2 := h.two.box.lt
  have hl3 := h.fus.lt
  have hq := h.fne
  have hn := H.at_.st.nbox h.fus (by decide) (by decide)
  have hj : F ≠ J := h.fus.ne H.jv.head (by decide)
  have := h.ne
  exact ⟨h.one.call H k hR h.ne.2.1, h.two.call H k hR h.ne.2.2.1, k.has h.fus (by omega), by rcases hR with rfl | z <;> omega, by rcases hR with rfl | z <;> omega, h.lo, h.len⟩
/-- the second box takes something else -/
theorem Bxs.put2 (h : Bxs w0 w F cs X Y R T1 a1 c1 xs1 g1 T2 a2 c2 xs2 g2) {T : ByteArray} {a : Option Addr} {c g : Nat} {xs : List ByteArray} (hr : Rw w g (.slice a xs.length c) xs) (hg : g ≠ R ∧ g ≠ X ∧ g ≠ Y ∧ w0.heap.size ≤ g ∧ g < w.heap.size) (hx : xs.length ≤ 1000) :
    Bxs w0 ((w.setCell ⟨Y, 0, none⟩ (.string T)).setCell ⟨Y, 1, none⟩ (.slice a xs.length c)) F cs X Y R T1 a1 c1 xs1 g1 T a c xs g := by
  have hn := h.ne
  refine ⟨(h.one.off hn.1 hn.2.2.2.2.1).off hn.1 hn.2.2.2.2.1, ⟨(h.two.box.put 0 _).put 1 _, hr.of fun cs hc => (hc.off (p := ⟨Y, 0, none⟩) hg.2.2.1 _).off (p := ⟨Y, 1, none⟩) hg.2.2.1 _, hg.1, by simpa [World.setCell] using hg.2.2.2.2⟩, (h.fus.off (p := ⟨Y, 0, none⟩) h.fne.2.1 _).off (p := ⟨Y, 1, none⟩) h.fne.2.1 _, h.fne, by omega, by have := h.lo; omega, by have := h.len; omega⟩
/-- the first box takes something else -/
theorem Bxs.put1 (h : Bxs w0 w F cs X Y R T1 a1 c1 xs1 g1 T2 a2 c2 xs2 g2) {T : ByteArray} {a : Option Addr} {c g : Nat} {xs : List ByteArray} (hr : Rw w g (.slice a xs.length c) xs) (hg : g ≠ R ∧ g ≠ X ∧ g ≠ Y ∧ w0.heap.size ≤ g ∧ g < w.heap.size) (hx : xs.length ≤ 1000) :
    Bxs w0 ((w.setCell ⟨X, 0, none⟩ (.string T)).setCell ⟨X, 1, none⟩ (.slice a xs.length c)) F cs X Y R T a c xs g T2 a2 c2 xs2 g2 := by
  have hn := h.ne
  refine ⟨⟨(h.one.box.put 0 _).put 1 _, hr.of fun cs hc => (hc.off (p := ⟨X, 0, none⟩) hg.2.1 _).off (p := ⟨X, 1, none⟩) hg.2.1 _, hg.1, by simpa [World.setCell] using hg.2.2.2.2⟩, (h.two.off (Ne.symm hn.1) hn.2.2.2.2.2.1).off (Ne.symm hn.1) hn.2.2.2.2.2.1, (h.fus.off (p := ⟨X, 0, none⟩) h.fne.1 _).off (p := ⟨X, 1, none⟩) h.fne.1 _, h.fne, by omega, by have := h.lo; omega, by have := h.len; omega⟩
end
/-- at the loop's head: the journal tells what is sure -/
structure SuI (w0 : World) (F : Nat) (cs : Array Value) (p b J X Y : Nat) (i : Nat) (wr : World) : Prop where
  ex : ∃ (R : Nat) (v : Value) (s : SS) (j : JS) (T1 : ByteArray) (a1 : Option Addr) (c1 : Nat) (xs1 : List ByteArray) (g1 : Nat) (T2 : ByteArray) (a2 : Option Addr) (c2 : Nat) (xs2 : List ByteArray) (g2 : Nat),
    Ses w0 wr J R p b v s j (10000 + 10000 * i) ∧ Inv s.n s.B j ∧ Bxs w0 wr F cs X Y R T1 a1 c1 xs1 g1 T2 a2 c2 xs2 g2 ∧ T1 :: xs1 = j.L.map str ∧ xs1.length ≤ i ∧ j.L ≠ []
/-- behind a call: the answer -/
structure Aft (w0 : World) (F : Nat) (cs : Array Value) (p b J X Y : Nat) (i : Nat) (T1 : ByteArray) (a1 : Option Addr) (c1 : Nat) (xs1 : List ByteArray) (T2 : ByteArray) (a2 : Option Addr) (c2 : Nat) (xs2 : List ByteArray) (E : Int) (w : World) : Prop where
  ex : ∃ (R : Nat) (v : Value) (s s' : SS) (j j' W : JS) (g1 g2 : Nat), Ses w0 w J R p b v s' j' (10000 + 10000 * i + 10000) ∧ Step s j W s' j' E ∧ Inv s.n s.B j ∧ Bxs w0 w F cs X Y R T1 a1 c1 xs1 g1 T2 a2 c2 xs2 g2 ∧ T1 :: xs1 = j.L.map str ∧ T2 :: xs2 = W.L.map str ∧ xs1.length ≤ i ∧ xs2.length ≤ i + 1 ∧ j.L ≠ [] ∧ W.L ≠ []
/-- behind the loop: the journal that is told behind a restart -/
structure SuE (w0 : World) (F : Nat) (cs : Array Value) (p b X Y : Nat) (T1 : ByteArray) (a1 : Option Addr) (c1 : Nat) (xs1 : List ByteArray) (T2 : ByteArray) (a2 : Option Addr) (c2 : Nat) (xs2 : List ByteArray) (w : World) : Prop where
  ex : ∃ (R : Nat) (s : SS) (jj : JS) (g1 g2 : Nat), At w p b s 400000 ∧ Inv s.n s.B jj ∧ jj.L ≠ [] ∧ Below w0.heap.size w0 w ∧ Bxs w0 w F cs X Y R T1 a1 c1 xs1 g1 T2 a2 c2 xs2 g2 ∧ (T1 :: xs1 = jj.L.map str ∨ T2 :: xs2 = jj.L.map str)
  lo : w0.heap.size ≤ p ∧ w0.heap.size ≤ b
section
variable {w0 w w' : World} {F : Nat} {cs : Array Value} {p b J X Y i c1 c2 : Nat} {T1 T2 : ByteArray} {a1 a2 : Option Addr} {xs1 xs2 : List ByteArray} {E : Int}
theorem tells_yes {j : JS} {T : ByteArray} {xs : List ByteArray} (h : T :: xs = j.L.map str) : tells j T xs = true := by
  unfold tells
  cases hL : j.L with
  | nil => rw [hL] at h; cases h
  | cons x l =>
    rw [hL] at h
    injection h with h1 h2
    simp [h1, h2]
theorem Aft.is (H : Aft w0 F cs p b J X Y i T1 a1 c1 xs1 T2 a2 c2 xs2 4 w) : Calls Tryd.prog 12 #[.agg #[.string T1, .slice a1 xs1.length c1], .pointer (some ⟨J, 0, none⟩)] w fun e w' => e = .returned (.bool true) ∧ Below w.heap.size w w' := by
  obtain ⟨R, v, s, s', j, j', W, g1, g2, hs, st, hi, hb, h1, h2, h3, h4, h5, h6⟩ := H.ex
  obtain ⟨rfl, rfl⟩ := st.full rfl
  have := is_any w J R v p s'.n j' T1 a1 c1 xs1 hs.jat.jv (hi.ok h5) hs.jat.at_.fine.hi hb.one.strA
  rwa [tells_yes h1] at this
theorem Aft.next4 (H : Aft w0 F cs p b J X Y i T1 a1 c1 xs1 T2 a2 c2 xs2 4 w) (k : Below w.heap.size w w') : SuI w0 F cs p b J X Y (i + 1) ((w'.setCell ⟨Y, 0, none⟩ (.string T1)).setCell ⟨Y, 1, none⟩ (.slice a1 xs1.length c1)) := by
  obtain ⟨R, v, s, s', j, j', W, g1, g2, hs, st, hi, hb, h1, h2, h3, h4, h5, h6⟩ := H.ex
  obtain ⟨rfl, rfl⟩ := st.full rfl
  have hb' := hb.up k
  have hn := hb'.ne
  have hl := hb'.lo
  have hw := hb'.one.lt
  have hY := hb'.two.box
  refine ⟨R, v, s', j', T1, a1, c1, xs1, g1, T1, a1, c1, xs1, g1, ?_, hi, hb'.put2 hb'.one.row ⟨hb'.one.ne, by omega, by omega, by omega, hw⟩ hb.len.1, h1, by omega, h5⟩
  have e : (10000 : Int) + 10000 * ((i + 1 : Nat) : Int) = 10000 + 10000 * i + 10000 := by omega
  rw [e]
  exact ((hs.up k).put hY (by decide) (Ne.symm hn.2.2.1) hl.2.1).put (hY.put 0 _) (by decide) (Ne.symm hn.2.2.1) hl.2.1
theorem Aft.next0 (H : Aft w0 F cs p b J X Y i T1 a1 c1 xs1 T2 a2 c2 xs2 0 w) : SuI w0 F cs p b J X Y (i + 1) ((w.setCell ⟨X, 0, none⟩ (.string T2)).setCell ⟨X, 1, none⟩ (.slice a2 xs2.length c2)) := by
  obtain ⟨R, v, s, s', j, j', W, g1, g2, hs, st, hi, hb, h1, h2, h3, h4, h5, h6⟩ := H.ex
  obtain ⟨hinv, hj⟩ := st.fine rfl
  subst hj
  have hn := hb.ne
  have hl := hb.lo
  have hw := hb.two.lt
  have hX := hb.one.box
  refine ⟨R, v, s', j', T2, a2, c2, xs2, g2, T2, a2, c2, xs2, g2, ?_, hinv, hb.put1 hb.two.row ⟨hb.two.ne, by omega, by omega, by omega, hw⟩ hb.len.2, h2, by omega, h6⟩
  have e : (10000 : Int) + 10000 * ((i + 1 : Nat) : Int) = 10000 + 10000 * i + 10000 := by omega
  rw [e]
  exact (hs.put hX (by decide) (Ne.symm hn.2.1) hl.1).put (hX.put 0 _) (by decide) (Ne.symm hn.2.1) hl.1
theorem Aft.down (H : Aft w0 F cs p b J X Y i T1 a1 c1 xs1 T2 a2 c2 xs2 E w) (h4 : E ≠ 4) (h0 : E ≠ 0) (hi : i ≤ 30) : SuE w0 F cs p b X Y T1 a1 c1 xs1 T2 a2 c2 xs2 w := by
  obtain ⟨R, v, s, s', j, j', W, g1, g2, hs, st, hinv, hb, h1, h2, h3, h4', h5, h6⟩ := H.ex
  have h9 : E = 9 := by have := st.err; omega
  have hA : At w p b s' 400000 := hs.jat.at_.fine_more (by omega)
  refine ⟨?_, hs.lo.2.2⟩
  rcases st.down h9 with q | q
  · exact ⟨R, s', j, g1, g2, hA, q, h5, hs.bel, hb, .inl h1⟩
  · exact ⟨R, s', W, g1, g2, hA, q, h6, hs.bel, hb, .inr h2⟩
/-- ahead of a Snap -/
theorem snap_aft {R g1 g2 : Nat} {v : Value} {s : SS} {j : JS} (H : Ses w0 w J R p b v s j (10000 + 10000 * i)) (hi : Inv s.n s.B j) (hb : Bxs w0 w F cs X Y R T1 a1 c1 xs1 g1 T2 none 0 [] g2) (h1 : T1 :: xs1 = j.L.map str) (hl : xs1.length ≤ i) (hne : j.L ≠ []) (hT : Tb w0) (hx : T2.size ≤ maxLen) (h30 : i ≤ 30) :
    Calls Tryd.prog 10 #[.pointer (some ⟨J, 0, none⟩), .string T2] w fun e w' => ∃ E, e = .returned (.int .i64 E) ∧ Aft w0 F cs p b J X Y i T1 a1 c1 xs1 T2 none 0 [] E w' := by
  refine (snap_any w J R p b v s _ j T2 H.jat (by omega) (hi.ok hne) hx (hT.old H.bel)).mono fun e w' q => ?_
  obtain ⟨he, R', v', hs⟩ := H.next q
  obtain ⟨_, ⟨R2, v2, hR2, hj2⟩, ht⟩ := q
  have st := snap_step T2.data.toList H.jat.at_.fine hi
  have hlo := H.lo
  have hsz := H.bel.size
  refine ⟨_, he, R2, v2, s, _, j, _, _, g1, g2, ⟨hj2, hs.bel, hlo.1, by rcases hR2 with rfl | z <;> omega, hlo.2.2⟩, st, hi, hb.call H.jat ht hR2, h1, ?_, hl, by simp, hne, by simp [snapJ]⟩
  simp [snapJ, str_of]
/-- ahead of an Append -/
theorem app_aft {R g1 g2 : Nat} {v : Value} {s : SS} {j : JS} {x : ByteArray} (H : Ses w0 w J R p b v s j (10000 + 10000 * i)) (hi : Inv s.n s.B j) (hb : Bxs w0 w F cs X Y R T1 a1 c1 xs1 g1 T1 a2 c2 xs2 g2) (h2 : xs2 = xs1 ++ [x]) (h1 : T1 :: xs1 = j.L.map str) (hl : xs1.length ≤ i) (hne : j.L ≠ []) (hT : Tb w0) (hx : x.size ≤ maxLen) (h30 : i ≤ 30) :
    Calls Tryd.prog 11 #[.pointer (some ⟨J, 0, none⟩), .string x] w fun e w' => ∃ E, e = .returned (.int .i64 E) ∧ Aft w0 F cs p b J X Y i T1 a1 c1 xs1 T1 a2 c2 xs2 E w' := by
  refine (append_any w J R p b v s _ j x H.jat (by omega) (hi.ok hne) hx (hT.old H.bel)).mono fun e w' q => ?_
  obtain ⟨he, R', v', hs⟩ := H.next q
  obtain ⟨_, ⟨R2, v2, hR2, hj2⟩, ht⟩ := q
  have st := app_step x.data.toList H.jat.at_.fine hi
  have hlo := H.lo
  have hsz := H.bel.size
  refine ⟨_, he, R2, v2, s, _, j, _, _, g1, g2, ⟨hj2, hs.bel, hlo.1, by rcases hR2 with rfl | z <;> omega, hlo.2.2⟩, st, hi, hb.call H.jat ht hR2, h1, ?_, hl, by rw [h2]; simp; omega, hne, by simp [appJ]⟩
  rw [h2, ← List.cons_append, h1]
  simp [appJ, str_of]
end
end Go.Proofs.YtjffcgimdffkoaaDoor

namespace Go.Proofs.YtjffcgimdffkoaaDoor
open Go.RowKit

section
variable {w0 w w' : World} {F : Nat} {cs : Array Value} {X Y R g1 c1 g2 c2 p b : Nat} {T1 T2 : ByteArray} {a1 a2 : Option Addr} {xs1 xs2 : List ByteArray}
theorem Rw.but {g : Nat} {v : Value} {xs : List ByteArray} {s : SS} {m : Int} (h : Rw w g v xs) (hA : At w p b s m) (k : But p b w w') : Rw w' g v xs := h.of fun _ hc => k.hasT hA hc (by decide) (by decide)
theorem Told.but {T : ByteArray} {a : Option Addr} {c g : Nat} {xs : List ByteArray} {s : SS} {m : Int} (h : Told w X R T a c xs g) (hA : At w p b s m) (k : But p b w w') : Told w' X R T a c xs g :=
  ⟨k.hasT hA h.box (by decide) (by decide), h.row.but hA k, h.ne, Nat.lt_of_lt_of_le h.lt k.size⟩
theorem Bxs.but {s : SS} {m : Int} (h : Bxs w0 w F cs X Y R T1 a1 c1 xs1 g1 T2 a2 c2 xs2 g2) (hA : At w p b s m) (k : But p b w w') : Bxs w0 w' F cs X Y R T1 a1 c1 xs1 g1 T2 a2 c2 xs2 g2 :=
  ⟨h.one.but hA k, h.two.but hA k, k.hasT hA h.fus (by decide) (by decide), h.fne, h.ne, h.lo, h.len⟩
end
/-- ready to be opened: what will be told -/
structure Rdy (w0 : World) (F : Nat) (cs : Array Value) (p b X Y : Nat) (T1 : ByteArray) (a1 : Option Addr) (c1 : Nat) (xs1 : List ByteArray) (T2 : ByteArray) (a2 : Option Addr) (c2 : Nat) (xs2 : List ByteArray) (n : Nat) (jj : JS) (m : Int) (w : World) : Prop where
  ex : ∃ (R g1 g2 : Nat) (s : SS), At w p b s m ∧ s.n = n ∧ Inv n s.B jj ∧ Below w0.heap.size w0 w ∧ Bxs w0 w F cs X Y R T1 a1 c1 xs1 g1 T2 a2 c2 xs2 g2
  ne : jj.L ≠ []
  lo : w0.heap.size ≤ p ∧ w0.heap.size ≤ b
  tell : T1 :: xs1 = jj.L.map str ∨ T2 :: xs2 = jj.L.map str
section
variable {w0 w w' : World} {F : Nat} {cs : Array Value} {X Y c1 c2 p b n : Nat} {T1 T2 : ByteArray} {a1 a2 : Option Addr} {xs1 xs2 : List ByteArray} {jj : JS} {m : Int}
theorem SuE.rdy (H : SuE w0 F cs p b X Y T1 a1 c1 xs1 T2 a2 c2 xs2 w) : ∃ n jj, Rdy w0 F cs p b X Y T1 a1 c1 xs1 T2 a2 c2 xs2 n jj 400000 w := by
  obtain ⟨R, s, jj, g1, g2, h1, h2, h3, h4, h5, h6⟩ := H.ex
  exact ⟨s.n, jj, ⟨R, g1, g2, s, h1, rfl, h2, h4, h5⟩, h3, H.lo, h6⟩
theorem Rdy.big (H : Rdy w0 F cs p b X Y T1 a1 c1 xs1 T2 a2 c2 xs2 n jj m w) : n ≤ 4096 ∧ Ok n jj := by
  obtain ⟨R, g1, g2, s, h1, h2, h3, _⟩ := H.ex
  exact ⟨by rw [← h2]; exact h1.fine.hi, h3.ok H.ne⟩
theorem Rdy.up (H : Rdy w0 F cs p b X Y T1 a1 c1 xs1 T2 a2 c2 xs2 n jj m w) (k : Below w.heap.size w w') : Rdy w0 F cs p b X Y T1 a1 c1 xs1 T2 a2 c2 xs2 n jj m w' := by
  obtain ⟨R, g1, g2, s, h1, h2, h3, h4, h5⟩ := H.ex
  exact ⟨⟨R, g1, g2, s, h1.up k, h2, h3, up2 h4 k, h5.up k⟩, H.ne, H.lo, H.tell⟩
theorem Rdy.restart (H : Rdy w0 F cs p b X Y T1 a1 c1 xs1 T2 a2 c2 xs2 n jj m w) :
    Calls Tryd.prog 13 #[.pointer (some ⟨p, 0, none⟩)] w fun e w' => e = .returned (.tuple #[]) ∧ Rdy w0 F cs p b X Y T1 a1 c1 xs1 T2 a2 c2 xs2 n jj m w' ∧ But p b w w' := by
  obtain ⟨R, g1, g2, s, h1, h2, h3, h4, h5⟩ := H.ex
  refine (h1.restart rfl).mono ?_
  rintro e w' ⟨rfl, ha, hk⟩
  exact ⟨rfl, ⟨⟨R, g1, g2, reS s, ha, h2, h3, h4.trans (hk.below h4.size H.lo.1 H.lo.2), h5.but h1 hk⟩, H.ne, H.lo, H.tell⟩, hk⟩
theorem Rdy.fuse (H : Rdy w0 F cs p b X Y T1 a1 c1 xs1 T2 a2 c2 xs2 n jj m w) {k t : Int} (hk : k ≤ 9223372036854775807) :
    Calls Tryd.prog 9 #[.pointer (some ⟨p, 0, none⟩), .int .i64 k, .int .i64 t] w fun e w' => e = .returned (.tuple #[]) ∧ Rdy w0 F cs p b X Y T1 a1 c1 xs1 T2 a2 c2 xs2 n jj m w' ∧ But p b w w' := by
  obtain ⟨R, g1, g2, s, h1, h2, h3, h4, h5⟩ := H.ex
  refine (h1.fuse hk rfl).mono ?_
  rintro e w' ⟨rfl, ha, hk⟩
  exact ⟨rfl, ⟨⟨R, g1, g2, fuS s k t, ha, by rw [fu_n]; exact h2, by rw [fu_B]; exact h3, h4.trans (hk.below h4.size H.lo.1 H.lo.2), h5.but h1 hk⟩, H.ne, H.lo, H.tell⟩, hk⟩
/-- a journal's text and records, apart from the store -/
structure Jvs (w : World) (J p b n : Nat) (j : JS) : Prop where
  ex : ∃ R v, Jv w J R v p n j ∧ J ≠ p ∧ J ≠ b ∧ R ≠ p ∧ R ≠ b
theorem Jvs.but {J : Nat} {j : JS} (H : Jvs w J p b n j) (k : But p b w w') : Jvs w' J p b n j := by
  obtain ⟨R, v, h, h1, h2, h3, h4⟩ := H.ex
  exact ⟨R, v, h.but k ⟨h1, h2⟩ ⟨h3, h4⟩, h1, h2, h3, h4⟩
theorem Jvs.up {J : Nat} {j : JS} (H : Jvs w J p b n j) (k : Below w.heap.size w w') : Jvs w' J p b n j := H.but (But.of p b k)
theorem Rdy.open_ (H : Rdy w0 F cs p b X Y T1 a1 c1 xs1 T2 a2 c2 xs2 n jj m w) (hm : m ≤ 800000) (hT : Tb w0) :
    Calls Tryd.prog 8 #[.pointer (some ⟨p, 0, none⟩)] w fun e w' => ∃ J, e = .returned (.tuple #[.pointer (some ⟨J, 0, none⟩), .int .i64 0]) ∧ Rdy w0 F cs p b X Y T1 a1 c1 xs1 T2 a2 c2 xs2 n jj (m + 10000) w' ∧ Jvs w' J p b n jj ∧ But p b w w' := by
  obtain ⟨R, g1, g2, s, h1, h2, h3, h4, h5⟩ := H.ex
  have ho : openS s = (s, some jj, 0) := open_inv (by rw [h2]; exact h3) H.ne
  have := open_any w p b s m h1 hm (hT.old h4)
  rw [ho] at this
  refine this.mono fun e w' q => ?_
  obtain ⟨hb, h0, J, R', v, a1', a2', a3, a4, a5⟩ := q
  have hnk := a4.at_.st.nbox a4.jv.head (by decide) (by decide)
  refine ⟨J, a3, ⟨⟨R, g1, g2, s, a4.at_, h2, h3, h4.trans (hb.below h4.size H.lo.1 H.lo.2), h5.but h1 hb⟩, H.ne, H.lo, H.tell⟩, ⟨R', v, ?_, hnk.1, hnk.2, a4.ne.2.1, a4.ne.2.2⟩, hb⟩
  have := a4.jv
  rwa [h2] at this
theorem Rdy.cells (H : Rdy w0 F cs p b X Y T1 a1 c1 xs1 T2 a2 c2 xs2 n jj m w) : w.cell? ⟨X, 0, none⟩ = some (.string T1) ∧ w.cell? ⟨X, 1, none⟩ = some (.slice a1 xs1.length c1) ∧ w.cell? ⟨Y, 0, none⟩ = some (.string T2) ∧ w.cell? ⟨Y, 1, none⟩ = some (.slice a2 xs2.length c2) ∧ Has w F 24 cs := by
  obtain ⟨R, g1, g2, s, h1, h2, h3, h4, hb⟩ := H.ex
  exact ⟨hb.one.box.cell 0, hb.one.box.cell 1, hb.two.box.cell 0, hb.two.box.cell 1, hb.fus⟩
theorem Rdy.bel (H : Rdy w0 F cs p b X Y T1 a1 c1 xs1 T2 a2 c2 xs2 n jj m w) : Below w0.heap.size w0 w := by
  obtain ⟨R, g1, g2, s, h1, h2, h3, h4, hb⟩ := H.ex
  exact h4
theorem Rdy.is1 {J : Nat} (H : Rdy w0 F cs p b X Y T1 a1 c1 xs1 T2 a2 c2 xs2 n jj m w) (hj : Jvs w J p b n jj) : Calls Tryd.prog 12 #[.agg #[.string T1, .slice a1 xs1.length c1], .pointer (some ⟨J, 0, none⟩)] w fun e w' => e = .returned (.bool (tells jj T1 xs1)) ∧ Below w.heap.size w w' := by
  obtain ⟨R', v, h, _⟩ := hj.ex
  obtain ⟨R, g1, g2, s, h1, h2, h3, h4, hb⟩ := H.ex
  exact is_any w J R' v p n jj T1 a1 c1 xs1 h H.big.2 H.big.1 hb.one.strA
theorem Rdy.is2 {J : Nat} (H : Rdy w0 F cs p b X Y T1 a1 c1 xs1 T2 a2 c2 xs2 n jj m w) (hj : Jvs w J p b n jj) (hn : tells jj T1 xs1 = false) : Calls Tryd.prog 12 #[.agg #[.string T2, .slice a2 xs2.length c2], .pointer (some ⟨J, 0, none⟩)] w fun e w' => e = .returned (.bool true) ∧ Below w.heap.size w w' := by
  obtain ⟨R', v, h, _⟩ := hj.ex
  obtain ⟨R, g1, g2, s, h1, h2, h3, h4, hb⟩ := H.ex
  have ht : tells jj T2 xs2 = true := by
    rcases H.tell with z | z
    · rw [tells_yes z] at hn; cases hn
    · exact tells_yes z
  have := is_any w J R' v p n jj T2 a2 c2 xs2 h H.big.2 H.big.1 hb.two.strA
  rwa [ht] at this
end
/-- the text that is told, the records -/
theorem Jvs.text {w : World} {J p b n : Nat} {j : JS} (H : Jvs w J p b n j) (T : ByteArray) (hT : T = str (j.L.headD [])) : Calls Tryd.prog 14 #[.pointer (some ⟨J, 0, none⟩)] w fun e w' => e = .returned (.string T) ∧ w = w' := by
  obtain ⟨R, v, h, _⟩ := H.ex
  rw [hT]
  exact text_any w J R v p n j h
theorem Jvs.records {w : World} {J p b n : Nat} {j : JS} (H : Jvs w J p b n j) (ok : Ok n j) (hn : n ≤ 4096) (xs : List ByteArray) (hx : xs = j.L.tail.map str) : Calls Tryd.prog 15 #[.pointer (some ⟨J, 0, none⟩)] w (Strl w w.heap.size xs) := by
  obtain ⟨R, v, h, _⟩ := H.ex
  rw [hx]
  exact records_any w J R v p n j h ok hn
theorem Jvs.room {w : World} {J p b n : Nat} {j : JS} (H : Jvs w J p b n j) (ok : Ok n j) (hn : n ≤ 4096) (K : Int) (hK : K = (til n j.half : Int) - (j.next : Int)) : Calls Tryd.prog 16 #[.pointer (some ⟨J, 0, none⟩)] w fun e w' => e = .returned (.int .i64 K) ∧ ∃ q, w' = w.drewN q := by
  obtain ⟨R, v, h, _⟩ := H.ex
  rw [hK]
  exact room_any w J R v p n j h ok hn
theorem Jvs.is {w : World} {J p b n : Nat} {j : JS} (H : Jvs w J p b n j) (ok : Ok n j) (hn : n ≤ 4096) (T : ByteArray) (hT : T = str (j.L.headD [])) (xs : List ByteArray) (hx : xs = j.L.tail.map str) (a : Option Addr) (c : Nat) (hs : StrA w a xs) :
    Calls Tryd.prog 12 #[.agg #[.string T, .slice a xs.length c], .pointer (some ⟨J, 0, none⟩)] w fun e w' => e = .returned (.bool true) ∧ Below w.heap.size w w' := by
  obtain ⟨R, v, h, _⟩ := H.ex
  have := is_any w J R v p n j T a c xs h ok hn hs
  rwa [show tells j T xs = true by unfold tells; rw [hT, hx]; simp] at this
end Go.Proofs.YtjffcgimdffkoaaDoor
