/- The ledger in memory; has, hasEntry, Open, Many, Moved. -/
import Derived.Test.YtginbgclifdfiaaAcK
namespace Go.Proofs.Ytginbgclifdfiaa
open Go.RowKit

def rowI (n : Nat) (g : Int → Int) : Array Value := ((List.range n).map fun (i : Nat) => Value.int .i64 (g (i : Int))).toArray
theorem rowI_get {n : Nat} (g : Int → Int) {i : Nat} (h : i < n) : (rowI n g)[i]? = some (.int .i64 (g i)) := by
  unfold rowI
  rw [List.getElem?_toArray, List.getElem?_map, List.getElem?_range h]; rfl
/-- movements: a map of rows, each in a block of its own -/
structure Tbl (w : World) (m n : Nat) (f : Int → Int → Int → Int) (rows : List (Int × Int × Nat)) : Prop where
  map : Mp Try.prog 73 w m (rows.map fun x => (plV x.1 x.2.1, .slice (some ⟨x.2.2, 0, none⟩) n n))
  row : ∀ x ∈ rows, Has w x.2.2 2 (rowI n (f x.1 x.2.1))
  apart : (rows.map (·.2.2)).Nodup
  zero : ∀ a c, (∀ x ∈ rows, ¬ (x.1 = a ∧ x.2.1 = c)) → ∀ q : Int, 0 ≤ q → q < n → f a c q = 0
/-- an entry's cells -/
def entC : List En → List Value → List Value
  | e :: l, v :: vs => .int .i64 e.per :: v :: .bool e.tu :: entC l vs
  | _, _ => []
structure Lgw (w : World) (p : Nat) (S : Ld) (f : Int → Int → Int → Int) (m : Nat) (ve : Value) (vs : List Value) (rows : List (Int × Int × Nat)) : Prop where
  head : Has w p 63 #[.int .i64 (S.n : Int), .int .i64 (S.op : Int), ve, .map (some m)]
  ents : w.ownsRow 0 77 3 ve S.L.length (entC S.L vs)
  lens : vs.length = S.L.length
  each : ∀ (i : Nat) (e : En) (v : Value), S.L[i]? = some e → vs[i]? = some v → w.ownsRow 0 48 3 v e.ps.length (flat e.ps)
  tbl : Tbl w m S.n f rows
  fine : Fine S
/-- all blocks of it are of this set -/
structure In9 (O : Nat → Prop) (p m : Nat) (ve : Value) (vs : List Value) (rows : List (Int × Int × Nat)) : Prop where
  p : O p
  m : O m
  ve : ∀ g, ve.ownBlock = some g → O g
  vs : ∀ v ∈ vs, ∀ g, v.ownBlock = some g → O g
  rows : ∀ x ∈ rows, O x.2.2
def Lg (w : World) (p : Nat) (S : Ld) (O : Nat → Prop) : Prop := ∃ m ve vs rows, Lgw w p S (fun a c q => rng a c q q S.L) m ve vs rows ∧ In9 O p m ve vs rows ∧ ∀ b, O b → b < w.heap.size

theorem own_keep {w w' : World} {base e size n : Nat} {v : Value} {xs : List Value} (h : w.ownsRow base e size v n xs) (hk : ∀ g, v.ownBlock = some g → w'.heap[g]? = w.heap[g]?) : w'.ownsRow base e size v n xs := by
  refine ⟨h.1, ?_⟩
  rcases h.2 with h2 | ⟨g, cap, cur, rfl, h3, h4, h5⟩
  · exact .inl h2
  · exact .inr ⟨g, cap, cur, rfl, h3, (hk g rfl).trans h4, h5⟩
theorem own_ltb {w : World} {base e size n : Nat} {v : Value} {xs : List Value} (h : w.ownsRow base e size v n xs) {g : Nat} (q : v.ownBlock = some g) : g < w.heap.size := (World.ownsRow.lt h g q).2
section
variable {w w' : World} {p m : Nat} {S : Ld} {f : Int → Int → Int → Int} {ve : Value} {vs : List Value} {rows : List (Int × Int × Nat)} {O : Nat → Prop}
theorem Tbl.keep {n : Nat} (h : Tbl w m n f rows) (hm : w'.heap[m]? = w.heap[m]?) (hr : ∀ x ∈ rows, w'.heap[x.2.2]? = w.heap[x.2.2]?) : Tbl w' m n f rows :=
  ⟨h.map.keep hm, fun x hx => (hr x hx).trans (h.row x hx), h.apart, h.zero⟩
theorem Lgw.keep (h : Lgw w p S f m ve vs rows) (hi : In9 O p m ve vs rows) (hk : ∀ b, b < w.heap.size → O b → w'.heap[b]? = w.heap[b]?) : Lgw w' p S f m ve vs rows := by
  refine ⟨(hk p h.head.lt hi.p).trans h.head, own_keep h.ents fun g hg => hk g (own_ltb h.ents hg) (hi.ve g hg), h.lens, fun i e v he hv => ?_, h.tbl.keep (hk m h.tbl.map.lt hi.m) fun x hx => hk _ (h.tbl.row x hx).lt (hi.rows x hx), h.fine⟩
  have := h.each i e v he hv
  exact own_keep this fun g hg => hk g (own_ltb this hg) (hi.vs v (List.mem_of_getElem? hv) g hg)
theorem Lg.keep (h : Lg w p S O) (hs : w.heap.size ≤ w'.heap.size) (hk : ∀ b, b < w.heap.size → O b → w'.heap[b]? = w.heap[b]?) : Lg w' p S O := by
  obtain ⟨m, ve, vs, rows, h1, h2, h3⟩ := h
  exact ⟨m, ve, vs, rows, h1.keep h2 hk, h2, fun b hb => Nat.lt_of_lt_of_le (h3 b hb) hs⟩
theorem Lgw.up (h : Lgw w p S f m ve vs rows) (q : Below w.heap.size w w') : Lgw w' p S f m ve vs rows :=
  h.keep (O := fun _ => True) ⟨trivial, trivial, fun _ _ => trivial, fun _ _ _ _ => trivial, fun _ _ => trivial⟩ fun b hb _ => q.block b hb
theorem Lg.up (h : Lg w p S O) (q : Below w.heap.size w w') : Lg w' p S O := h.keep q.size fun b hb _ => q.block b hb
theorem Lg.drew (h : Lg w p S O) : Lg w.drew p S O := h.keep (Nat.le_refl _) fun _ _ _ => rfl
theorem Lg.drewN (h : Lg w p S O) (n : Nat) : Lg (w.drewN n) p S O := h.keep (Nat.le_refl _) fun _ _ _ => rfl
theorem Lg.bd (h : Lg w p S O) : ∀ b, O b → b < w.heap.size := by obtain ⟨_, _, _, _, _, _, h⟩ := h; exact h
theorem Lg.fine (h : Lg w p S O) : Fine S := by obtain ⟨_, _, _, _, h, _⟩ := h; exact h.fine
/-- its four cells -/
def Lc4 (w : World) (p : Nat) (S : Ld) (ve : Value) (m : Nat) : Prop :=
  w.cell? ⟨p, 0, none⟩ = some (.int .i64 (S.n : Int)) ∧ w.cell? ⟨p, 1, none⟩ = some (.int .i64 (S.op : Int)) ∧ w.cell? ⟨p, 2, none⟩ = some ve ∧ w.cell? ⟨p, 3, none⟩ = some (.map (some m))
theorem Lgw.lc (h : Lgw w p S f m ve vs rows) : Lc4 w p S ve m := ⟨h.head.cell 0, h.head.cell 1, h.head.cell 2, h.head.cell 3⟩

theorem tbl_look {n : Nat} {a c : Int} (h : Tbl w m n f rows) (ha : Am a) (hc : Am c) :
    ∃ v, (∀ W : World, W.heap[m]? = w.heap[m]? → (Instr.lookup 60 (.map (some m)) (plV a c) false).run Try.prog W = .ok v W) ∧
      ((v = .slice none 0 0 ∧ ∀ q : Int, 0 ≤ q → q < n → f a c q = 0) ∨ ∃ g, v = .slice (some ⟨g, 0, none⟩) n n ∧ (a, c, g) ∈ rows ∧ Has w g 2 (rowI n (f a c))) := by
  have hk := ky_place ha hc
  obtain ⟨v, hrun, hv⟩ := h.map.look lawPlace Try.underlying60 (zeroI64s w) hk
  refine ⟨v, fun W hW => ?_, ?_⟩
  · have hM := h.map.keep hW
    obtain ⟨u, hr, hu⟩ := hM.look lawPlace Try.underlying60 (zeroI64s W) hk
    rcases hv with ⟨rfl, h1⟩ | h1 <;> rcases hu with ⟨rfl, h2⟩ | h2
    · exact hr
    · exact absurd rfl (h1 _ h2)
    · exact absurd rfl (h2 _ h1)
    · rw [hM.one h1 h2]; exact hr
  · rcases hv with ⟨rfl, h1⟩ | h1
    · refine .inl ⟨rfl, h.zero a c fun x hx e => h1 _ (List.mem_map.2 ⟨x, hx, rfl⟩) (by rw [e.1, e.2])⟩
    · obtain ⟨x, hx, e⟩ := List.mem_map.1 h1
      injection e with e1 e2
      unfold plV at e1
      injection e1 with e1
      simp at e1
      obtain ⟨a', c', g⟩ := x
      obtain ⟨q1, q2⟩ := e1
      have q1' : a' = a := q1
      have q2' : c' = c := q2
      subst q1'; subst q2'
      exact .inr ⟨g, e2.symm, hx, h.row _ hx⟩

theorem eq_nil (W : World) : (binOp .eql 55 (.slice none 0 0) (.slice none 0 0)).run Try.prog W = .ok (.bool true) W := Lib.run_eql_slice_nil W 55 2 none 0 0 0 0 Try.underlying55
theorem eq_some (W : World) (a : Addr) (n c : Nat) : (binOp .eql 55 (.slice (some a) n c) (.slice none 0 0)).run Try.prog W = .ok (.bool false) W := Lib.run_eql_slice_nil W 55 2 (some a) n c 0 0 Try.underlying55

def hasB (S : Ld) (q : Int) : Bool := decide (0 ≤ q) && decide (q < (S.n : Int))
set_option maxRecDepth 100000 in
set_option maxHeartbeats 1000000 in
theorem has_cells (q : Int) (hc : w.cell? ⟨p, 0, none⟩ = some (.int .i64 (S.n : Int))) :
    Calls Try.prog 35 #[.pointer (some ⟨p, 0, none⟩), .int .i64 q] w fun e w' => e = .returned (.bool (hasB S q)) ∧ w = w' := by
  by_cases h1 : 0 ≤ q
  · rw [show hasB S q = decide (q < (S.n : Int)) by unfold hasB; rw [decide_eq_true h1]; rfl]
    go_enter Try.func35, Try.ntmps35
    go_wp2
    go_ret
    exact ⟨rfl, rfl⟩
  · rw [show hasB S q = false by unfold hasB; rw [decide_eq_false h1]; rfl]
    go_enter Try.func35, Try.ntmps35
    go_wp2
    go_ret
    exact ⟨rfl, rfl⟩
def entB (S : Ld) (i : Int) : Bool := decide (0 ≤ i) && decide (i < (S.L.length : Int))
set_option maxRecDepth 100000 in
set_option maxHeartbeats 1000000 in
theorem hasEntry_cells {a : Option Addr} {cap : Nat} (i : Int) (hc : w.cell? ⟨p, 2, none⟩ = some (.slice a S.L.length cap)) :
    Calls Try.prog 37 #[.pointer (some ⟨p, 0, none⟩), .int .i64 i] w fun e w' => e = .returned (.bool (entB S i)) ∧ w = w' := by
  by_cases h1 : 0 ≤ i
  · rw [show entB S i = decide (i < (S.L.length : Int)) by unfold entB; rw [decide_eq_true h1]; rfl]
    go_enter Try.func37, Try.ntmps37
    go_wp2
    go_ret
    exact ⟨rfl, rfl⟩
  · rw [show entB S i = false by unfold entB; rw [decide_eq_false h1]; rfl]
    go_enter Try.func37, Try.ntmps37
    go_wp2
    go_ret
    exact ⟨rfl, rfl⟩
theorem own_form9 {base e size n : Nat} {v : Value} {xs : List Value} (h : w.ownsRow base e size v n xs) : ∃ a cap, v = .slice a n cap := by
  rcases h.2 with ⟨rfl, rfl⟩ | ⟨g, cap, cur, rfl, _⟩
  · exact ⟨none, 0, rfl⟩
  · exact ⟨_, cap, rfl⟩
set_option maxRecDepth 100000 in
set_option maxHeartbeats 1000000 in
theorem open_any (h : Lg w p S O) : Calls Try.prog 15 #[.pointer (some ⟨p, 0, none⟩)] w fun e w' => e = .returned (.int .i64 (S.op : Int)) ∧ w = w' := by
  obtain ⟨m, ve, vs, rows, h, _⟩ := h
  obtain ⟨c0, c1, c2, c3⟩ := h.lc
  clear h
  go_enter Try.func15, Try.ntmps15
  go_wp2
  go_ret
  exact ⟨rfl, rfl⟩
set_option maxRecDepth 100000 in
set_option maxHeartbeats 1000000 in
theorem many_any (h : Lg w p S O) : Calls Try.prog 16 #[.pointer (some ⟨p, 0, none⟩)] w fun e w' => e = .returned (.int .i64 (S.L.length : Int)) ∧ w = w' := by
  obtain ⟨m, ve, vs, rows, h, _⟩ := h
  obtain ⟨a, cap, rfl⟩ := own_form9 h.ents
  obtain ⟨c0, c1, c2, c3⟩ := h.lc
  clear h
  go_enter Try.func16, Try.ntmps16
  go_wp2
  go_ret
  exact ⟨rfl, rfl⟩

set_option maxRecDepth 100000 in
set_option maxHeartbeats 2000000 in
theorem moved_any (a c q : Int) (h : Lg w p S O) (ha : Am a) (hc : Am c) :
    Calls Try.prog 19 #[.pointer (some ⟨p, 0, none⟩), .int .i64 a, .int .i64 c, .int .i64 q] w fun e w' => e = .returned (.int .i64 (movV S a c q)) ∧ w = w' := by
  obtain ⟨m, ve, vs, rows, h, _⟩ := h
  obtain ⟨v, hl, hv⟩ := tbl_look h.tbl ha hc
  have l1 := hl w rfl
  unfold plV at l1
  obtain ⟨c0, c1, c2, c3⟩ := h.lc
  have HH := Lib.hid (has_cells (w := w) (p := p) (S := S) q c0)
  by_cases hq : 0 ≤ q ∧ q < S.n
  · rw [show movV S a c q = rng a c q q S.L by unfold movV; rw [if_neg (by omega)]]
    rcases hv with ⟨rfl, hz⟩ | ⟨g, rfl, _, hr⟩
    · rw [hz q hq.1 hq.2]
      clear h hl c1 c2 c0 hz
      have en := eq_nil
      go_enter Try.func19, Try.ntmps19
      go_wp2_with fail
      go_ret
      exact ⟨rfl, rfl⟩
    · obtain ⟨k, rfl⟩ : ∃ k : Nat, q = k := ⟨q.toNat, by omega⟩
      have hb : hasB S (k : Int) = true := by unfold hasB; simp; omega
      have hk := hr.cell k
      rw [rowI_get _ (by omega)] at hk
      have hk' : w.cell? ⟨g, 0 + k, none⟩ = some (.int .i64 (rng a c k k S.L)) := by rw [Nat.zero_add]; exact hk
      have i1 : (0 : Int) ≤ (k : Int) := by omega
      have i2 : (k : Int) < (S.n : Int) := hq.2
      have i3 : ((k : Int)).toNat = k := by omega
      clear h hl c1 c2 c0 hr hq
      have en := eq_some
      go_enter Try.func19, Try.ntmps19
      go_wp2_with fail
      refine HH.out.mono ?_
      rintro e w2 ⟨rfl, rfl⟩
      rw [hb]
      go_wp2_with fail
      go_ret
      exact ⟨rfl, rfl⟩
  · rw [show movV S a c q = 0 by unfold movV; rw [if_pos (by omega)]]
    rcases hv with ⟨rfl, hz⟩ | ⟨g, rfl, _, hr⟩
    · clear h hl c1 c2 c0 hz
      have en := eq_nil
      go_enter Try.func19, Try.ntmps19
      go_wp2_with fail
      go_ret
      exact ⟨rfl, rfl⟩
    · have hb : hasB S q = false := by unfold hasB; simp; omega
      clear h hl c1 c2 c0 hr hq
      have en := eq_some
      go_enter Try.func19, Try.ntmps19
      go_wp2_with fail
      refine HH.out.mono ?_
      rintro e w2 ⟨rfl, rfl⟩
      rw [hb]
      go_wp2_with fail
      go_ret
      exact ⟨rfl, rfl⟩
end
end Go.Proofs.Ytginbgclifdfiaa
