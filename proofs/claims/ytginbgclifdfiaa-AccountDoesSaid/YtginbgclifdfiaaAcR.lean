/- move, walked. -/
import Derived.Test.YtginbgclifdfiaaAcQ
namespace Go.Proofs.Ytginbgclifdfiaa
open Go.RowKit

section
variable {w w' : World} {p m : Nat} {S : Ld} {f : Int → Int → Int → Int} {ve : Value} {vs : List Value} {rows : List (Int × Int × Nat)} {O : Nat → Prop}
theorem own_type {base e size n : Nat} {v : Value} {xs : List Value} (h : w.ownsRow base e size v n xs) {g t : Nat} {cs : Array Value} (hg : Has w g t cs) (hne : e ≠ t) : ∀ j, v.ownBlock = some j → j ≠ g := by
  intro j hj q
  subst q
  rcases h.2 with ⟨rfl, _⟩ | ⟨g', cap, cur, rfl, _, hh, _⟩
  · cases hj
  · injection hj with hj
    have hj' : g' = j := hj
    subst hj'
    unfold Has at hg
    rw [hh] at hg
    injection hg with hg
    injection hg with _ e1
    exact hne e1
theorem own_map {base e size n : Nat} {v : Value} {xs : List Value} (h : w.ownsRow base e size v n xs) {l : List (Value × Value)} {k : Nat} {P : Program} (hm : Mp P k w m l) : ∀ j, v.ownBlock = some j → j ≠ m := by
  intro j hj q
  subst q
  rcases h.2 with ⟨rfl, _⟩ | ⟨g', cap, cur, rfl, _, hh, _⟩
  · cases hj
  · injection hj with hj
    have hj' : g' = j := hj
    subst hj'
    obtain ⟨es, cl, h1, _⟩ := hm
    rw [h1.heap] at hh
    cases hh
theorem has_map {g t : Nat} {cs : Array Value} (h : Has w g t cs) {l : List (Value × Value)} {k : Nat} {P : Program} (hm : Mp P k w m l) : g ≠ m := by
  intro q
  subst q
  obtain ⟨es, cl, h1, _⟩ := hm
  unfold Has at h
  rw [h1.heap] at h
  cases h
theorem Lgw.setRow {a c : Int} {g k : Nat} (x : Int) (h : Lgw w p S f m ve vs rows) (hr : (a, c, g) ∈ rows) : Lgw (w.setCell ⟨g, k, none⟩ (.int .i64 x)) p S (updF f a c k x) m ve vs rows := by
  have hg := h.tbl.row _ hr
  refine ⟨h.head.off (p := ⟨g, k, none⟩) (h.head.ne hg (by decide)) _, own_keep h.ents fun j hj => setCell_heap _ _ _ _ (own_type h.ents hg (by decide) j hj), h.lens, fun i e v he hv => ?_, h.tbl.store x hr, h.fine⟩
  have := h.each i e v he hv
  exact own_keep this fun j hj => setCell_heap _ _ _ _ (own_type this hg (by decide) j hj)
theorem Lgw.moreRow {a c : Int} {g : Nat} {l' : List (Value × Value)} (h : Lgw w p S f m ve vs rows) (hno : ∀ x ∈ rows, ¬ (x.1 = a ∧ x.2.1 = c)) (hz : ∀ q : Int, 0 ≤ q → q < S.n → f a c q = 0)
    (hg : w.heap.size ≤ g) {W w5 : World} (hb : Below w.heap.size w W) (hgr : Has W g 2 (rowI S.n fun _ => 0)) (hp : Put (rows.map fun x => (plV x.1 x.2.1, .slice (some ⟨x.2.2, 0, none⟩) S.n S.n)) (plV a c) (.slice (some ⟨g, 0, none⟩) S.n S.n) l')
    (hm : Mp Try.prog 73 w5 m l') (h5 : W.grownBy w5 (some m)) : Lgw w5 p S f m ve vs (rows ++ [(a, c, g)]) := by
  have kp : ∀ b, b < w.heap.size → b ≠ m → w5.heap[b]? = w.heap[b]? := fun b hb' hne => (h5.block b (Nat.lt_of_lt_of_le hb' hb.size) (fun e => hne (by injection e))).trans (hb.block b hb')
  refine ⟨(kp p h.head.lt (has_map h.head h.tbl.map)).trans h.head, own_keep h.ents fun j hj => kp j (own_ltb h.ents hj) (own_map h.ents h.tbl.map j hj), h.lens, fun i e v he hv => ?_, h.tbl.more hno hz hg hb hgr hp hm h5, h.fine⟩
  have := h.each i e v he hv
  exact own_keep this fun j hj => kp j (own_ltb this hj) (own_map this h.tbl.map j hj)
/-- what is behind a movement's laying -/
def MovR (w : World) (p : Nat) (S : Ld) (f : Int → Int → Int → Int) (m : Nat) (ve : Value) (vs : List Value) (rows : List (Int × Int × Nat)) (a c k x : Int) (e : Ending) (w' : World) : Prop :=
  e = .returned (.tuple #[]) ∧ ∃ rows', Lgw w' p S (updF f a c k x) m ve vs rows' ∧ Kp (fun b => b = m ∨ ∃ y ∈ rows, b = y.2.2) w w' ∧ ∀ y ∈ rows', y ∈ rows ∨ w.heap.size ≤ y.2.2
/-- cells that a region of move reads -/
def Mc4 (p X : Nat) (a c : Int) (n : Nat) (m : Nat) (w : World) : Prop := w.cell? ⟨p, 3, none⟩ = some (.map (some m)) ∧ w.cell? ⟨X, 0, none⟩ = some (.int .i64 a) ∧ w.cell? ⟨X, 1, none⟩ = some (.int .i64 c) ∧ w.cell? ⟨p, 0, none⟩ = some (.int .i64 (n : Int))
theorem Mc4.set {p X n m : Nat} {a c : Int} (h : Mc4 p X a c n m w) {g k : Nat} {v : Value} (h1 : p ≠ g) (h2 : X ≠ g) : Mc4 p X a c n m (w.setCell ⟨g, k, none⟩ v) :=
  ⟨cset h.1 (.inl h1), cset h.2.1 (.inl h2), cset h.2.2.1 (.inl h2), cset h.2.2.2 (.inl h1)⟩
theorem Mc4.keep {p X n m : Nat} {a c : Int} {row : Option Nat} (h : Mc4 p X a c n m w) (g : w.grownBy w' row) (h1 : some p ≠ row) (h2 : some X ≠ row) : Mc4 p X a c n m w' :=
  ⟨g.cell h.1 h1, g.cell h.2.1 h2, g.cell h.2.2.1 h2, g.cell h.2.2.2 h1⟩

set_option maxRecDepth 100000 in
set_option maxHeartbeats 8000000 in
theorem move_some (a c : Int) (k : Nat) (x : Int) {g : Nat} (h : Lgw w p S f m ve vs rows) (hk : k < S.n) (hr : (a, c, g) ∈ rows)
    (hl : ∀ W : World, W.heap[m]? = w.heap[m]? → (Instr.lookup 60 (.map (some m)) (plV a c) false).run Try.prog W = .ok (.slice (some ⟨g, 0, none⟩) S.n S.n) W) :
    Calls Try.prog 44 #[.pointer (some ⟨p, 0, none⟩), plV a c, .int .i64 (k : Int), .int .i64 x] w (MovR w p S f m ve vs rows a c k x) := by
  obtain ⟨W1, hW1⟩ : ∃ W1, W1 = w.alloc (.cells #[.int .i64 a, .int .i64 c] 73) := ⟨_, rfl⟩
  have hb1 : Below w.heap.size w W1 := by rw [hW1]; exact boxed _ _
  have hX : Has W1 w.heap.size 73 #[.int .i64 a, .int .i64 c] := by rw [hW1]; exact Has.fresh _ _ _
  have h1 := h.up hb1
  have hmW : W1.heap[m]? = w.heap[m]? := hb1.block m h.tbl.map.lt
  have l1 := hl W1.drew hmW
  have l2 := hl W1.drew.drew hmW
  obtain ⟨c0, c1, c2, c3⟩ := h1.lc
  have hrow := h1.tbl.row _ hr
  have gc : W1.cell? ⟨g, k, none⟩ = some (.int .i64 (f a c k)) := by have := hrow.cell k; rwa [rowI_get (f a c) hk] at this
  have gf : W1.frozen? ⟨g, k, none⟩ = false := hrow.free k
  have hpg : p ≠ g := h1.head.ne hrow (by decide)
  have hXg : w.heap.size ≠ g := hX.ne hrow (by decide)
  have x0 : W1.cell? ⟨w.heap.size, 0, none⟩ = some (.int .i64 a) := hX.cell 0
  have x1 : W1.cell? ⟨w.heap.size, 1, none⟩ = some (.int .i64 c) := hX.cell 1
  have hM : Mc4 p w.heap.size a c S.n m W1 := ⟨c3, x0, x1, c0⟩
  have HM1 : Hid (Mc4 p w.heap.size a c S.n m W1.drew) := hM
  have HM2 : Hid (Mc4 p w.heap.size a c S.n m W1.drew.drew) := hM
  have HM3 : Hid (Mc4 p w.heap.size a c S.n m (W1.setCell ⟨g, k, none⟩ (.int .i64 x)).drew.drew) := Mc4.set hM hpg hXg
  have hend : MovR w p S f m ve vs rows a c k x (.returned (.tuple #[])) (W1.setCell ⟨g, k, none⟩ (.int .i64 x)).drew.drew := by
    refine ⟨rfl, rows, (h1.setRow x hr).up ((Below.refl _ _).drew.drew), ?_, fun y hy => .inl hy⟩
    exact ((Kp.of hb1).trans (Kp.set _ _ _ (O := fun b => b = g) rfl) (fun b hb => .inl (.inr ⟨_, hr, hb⟩))).trans (O' := fun _ => False) (Kp.of ((Below.refl _ _).drew.drew)) (fun b hb => hb.elim)
  have HE := Lib.hid hend
  have HW1 := Lib.hid hW1
  have en := eq_some
  have i1 : (0 : Int) ≤ (k : Int) := by omega
  have i2 : (k : Int) < (S.n : Int) := by omega
  have i3 : ((k : Int)).toNat = k := by omega
  unfold plV at l1 l2 ⊢
  clear h hl hb1 hX h1 hmW hrow hM hend hW1 hr c1 c2
  go_enter Try.func44, Try.ntmps44
  go_wp2_with fail
  rw [← HW1.out]
  go_region_held3 (fun w' => w'.cell? ⟨p, 3, none⟩ = some (.map (some m)) ∧ w'.cell? ⟨w.heap.size, 0, none⟩ = some (.int .i64 a) ∧ w'.cell? ⟨w.heap.size, 1, none⟩ = some (.int .i64 c) ∧ w'.cell? ⟨p, 0, none⟩ = some (.int .i64 (S.n : Int)))
    (first | (go_keep; done) | (change Mc4 p w.heap.size a c S.n m _; with_reducible exact HM1.out))
    (first | fail)
  all_goals
    clear l1
    go_wp2_with fail
    go_region_held3 (fun w' => w'.cell? ⟨p, 3, none⟩ = some (.map (some m)) ∧ w'.cell? ⟨w.heap.size, 0, none⟩ = some (.int .i64 a) ∧ w'.cell? ⟨w.heap.size, 1, none⟩ = some (.int .i64 c) ∧ w'.cell? ⟨p, 0, none⟩ = some (.int .i64 (S.n : Int)))
      (first | (go_keep; done) | (change Mc4 p w.heap.size a c S.n m _; (first | with_reducible exact HM2.out | with_reducible exact HM3.out)))
      (first | fail)
  all_goals
    clear l2 c0 c3 x0 x1 gc gf
    go_wp2_with fail
    go_end0
    exact HE.out

set_option maxRecDepth 100000 in
set_option maxHeartbeats 8000000 in
theorem move_none (a c : Int) (k : Nat) (x : Int) (h : Lgw w p S f m ve vs rows) (ha : Am a) (hc : Am c) (hk : k < S.n) (hno : ∀ x ∈ rows, ¬ (x.1 = a ∧ x.2.1 = c)) (hz : ∀ q : Int, 0 ≤ q → q < S.n → f a c q = 0)
    (hl : ∀ W : World, W.heap[m]? = w.heap[m]? → (Instr.lookup 60 (.map (some m)) (plV a c) false).run Try.prog W = .ok (.slice none 0 0) W) :
    Calls Try.prog 44 #[.pointer (some ⟨p, 0, none⟩), plV a c, .int .i64 (k : Int), .int .i64 x] w (MovR w p S f m ve vs rows a c k x) := by
  have hn := h.fine.n1
  obtain ⟨W1, hW1⟩ : ∃ W1, W1 = w.alloc (.cells #[.int .i64 a, .int .i64 c] 73) := ⟨_, rfl⟩
  have hb1 : Below w.heap.size w W1 := by rw [hW1]; exact boxed _ _
  have hs1 : W1.heap.size = w.heap.size + 1 := by rw [hW1]; simp
  have hX : Has W1 w.heap.size 73 #[.int .i64 a, .int .i64 c] := by rw [hW1]; exact Has.fresh _ _ _
  have h1 := h.up hb1
  have hmW : W1.heap[m]? = w.heap[m]? := hb1.block m h.tbl.map.lt
  have l1 := hl W1.drew hmW
  obtain ⟨c0, c1, c2, c3⟩ := h1.lc
  have x0 : W1.cell? ⟨w.heap.size, 0, none⟩ = some (.int .i64 a) := hX.cell 0
  have x1 : W1.cell? ⟨w.heap.size, 1, none⟩ = some (.int .i64 c) := hX.cell 1
  have hM : Mc4 p w.heap.size a c S.n m W1 := ⟨c3, x0, x1, c0⟩
  -- a row of noughts
  obtain ⟨W2, hW2⟩ : ∃ W2, W2 = W1.drew := ⟨_, rfl⟩
  have hmk : ∀ W : World, (Instr.makeSlice 55 (.int .i64 (S.n : Int)) (.int .i64 (S.n : Int))).run Try.prog W = .ok (.slice (some ⟨W.heap.size, 0, none⟩) S.n S.n) (W.alloc (.cells (rowI S.n fun _ => 0) 2)) := fun W => by
    rw [← rowI_zero]
    exact run_make_row' 55 2 _ 8 Try.underlying55 info64 rfl .i64 .i64 S.n (by omega) (by omega) W
  have hs2 : W2.heap.size = w.heap.size + 1 := by rw [hW2]; exact hs1
  have hb2 : Below w.heap.size w W2 := by rw [hW2]; exact hb1.drew
  obtain ⟨W3, hW3⟩ : ∃ W3, W3 = (W2.alloc (.cells (rowI S.n fun _ => 0) 2)).drew := ⟨_, rfl⟩
  have hb3 : Below w.heap.size w W3 := by rw [hW3]; exact (hb2.alloc (by omega) _).drew
  have hs3 : W3.heap.size = w.heap.size + 2 := by rw [hW3]; simp; omega
  have hg3 : Has W3 W2.heap.size 2 (rowI S.n fun _ => 0) := by rw [hW3]; exact Has.fresh W2 2 _
  have hmp3 := h.tbl.map.up hb3
  obtain ⟨w5, l', hput, hmp5, hP, hg5, hs5⟩ := hmp3.put (val := .slice (some ⟨W2.heap.size, 0, none⟩) S.n S.n) lawPlace Try.underlying60 (ky_place ha hc)
  have h5 : Lgw w5 p S f m ve vs (rows ++ [(a, c, W2.heap.size)]) := h.moreRow hno hz (by omega) hb3 hg3 hP hmp5 hg5
  have hr5 : (a, c, W2.heap.size) ∈ rows ++ [(a, c, W2.heap.size)] := by simp
  obtain ⟨v5, hl5, hv5⟩ := tbl_look h5.tbl ha hc
  have hv : v5 = .slice (some ⟨W2.heap.size, 0, none⟩) S.n S.n := by
    have h6 := h5.tbl.map.look lawPlace Try.underlying60 (zeroI64s w5) (ky_place ha hc)
    obtain ⟨u, hu1, hu2⟩ := h6
    have e0 := hl5 w5 rfl
    rw [e0] at hu1
    injection hu1 with hu1
    subst hu1
    have hin : (plV a c, Value.slice (some ⟨W2.heap.size, 0, none⟩) S.n S.n) ∈ (rows ++ [(a, c, W2.heap.size)]).map (fun x => (plV x.1 x.2.1, Value.slice (some ⟨x.2.2, 0, none⟩) S.n S.n)) := List.mem_map.2 ⟨_, hr5, rfl⟩
    rcases hu2 with ⟨_, h7⟩ | h7
    · exact absurd rfl (h7 _ hin)
    · exact h5.tbl.map.one h7 hin
  subst hv
  have l5 := hl5 w5.drew rfl
  have hpm : p ≠ m := has_map h1.head h1.tbl.map
  have hXm : w.heap.size ≠ m := by have := h.tbl.map.lt; omega
  have hb13 : Below W1.heap.size W1 W3 := by rw [hW3, hW2]; exact (((Below.refl _ _).drew).alloc (Nat.le_refl _) _).drew
  have hM3 : Mc4 p w.heap.size a c S.n m W3 := Mc4.keep hM (grown_up hb13 none) (by simp) (by simp)
  have hM5 : Mc4 p w.heap.size a c S.n m w5 := by
    exact hM3.keep hg5 (by simp; exact hpm) (by simp; exact hXm)
  have hrow := h5.tbl.row _ hr5
  have gc : w5.cell? ⟨W2.heap.size, k, none⟩ = some (.int .i64 (f a c k)) := by have := hrow.cell k; rwa [rowI_get (f a c) hk] at this
  have gf : w5.frozen? ⟨W2.heap.size, k, none⟩ = false := hrow.free k
  have hpg : p ≠ W2.heap.size := h5.head.ne hrow (by decide)
  have hXg : w.heap.size ≠ W2.heap.size := by omega
  have HM1 : Hid (Mc4 p w.heap.size a c S.n m W1.drew) := hM
  have HM2 : Hid (Mc4 p w.heap.size a c S.n m W2.drew) := by rw [hW2]; exact hM
  have HM3 : Hid (Mc4 p w.heap.size a c S.n m W3) := hM3
  have HM5 : Hid (Mc4 p w.heap.size a c S.n m w5) := hM5
  have HM6 : Hid (Mc4 p w.heap.size a c S.n m w5.drew) := hM5
  have HM7 : Hid (Mc4 p w.heap.size a c S.n m (w5.setCell ⟨W2.heap.size, k, none⟩ (.int .i64 x)).drew) := Mc4.set hM5 hpg hXg
  have hend : MovR w p S f m ve vs rows a c k x (.returned (.tuple #[])) (w5.setCell ⟨W2.heap.size, k, none⟩ (.int .i64 x)).drew := by
    refine ⟨rfl, rows ++ [(a, c, W2.heap.size)], (h5.setRow x hr5).up ((Below.refl _ _).drew), ?_, fun y hy => ?_⟩
    · refine (((Kp.of hb3).trans (Kp.grown (O := fun b => b = m) hg5 (fun j hj => by injection hj with hj; exact .inl hj.symm)) (fun b hb => .inl (.inl hb))).trans (Kp.set _ _ _ (O := fun b => b = W2.heap.size) rfl) (fun b hb => .inr (by omega))).trans (O' := fun _ => False) (Kp.of ((Below.refl _ _).drew)) (fun b hb => hb.elim)
    · rcases List.mem_append.1 hy with hy | hy
      · exact .inl hy
      · rw [List.mem_singleton.1 hy]
        refine .inr ?_
        show w.heap.size ≤ W2.heap.size
        omega
  have HE := Lib.hid hend
  have HW1 := Lib.hid hW1
  have HW2 := Lib.hid hW2
  have HW3 := Lib.hid hW3
  have en := eq_nil
  have i1 : (0 : Int) ≤ (k : Int) := by omega
  have i2 : (k : Int) < (S.n : Int) := by omega
  have i3 : ((k : Int)).toNat = k := by omega
  have d0 : W2.cell? ⟨p, 0, none⟩ = some (.int .i64 (S.n : Int)) := by rw [hW2]; exact c0
  have d3 : W2.cell? ⟨p, 3, none⟩ = some (.map (some m)) := by rw [hW2]; exact c3
  have y0 : W2.cell? ⟨w.heap.size, 0, none⟩ = some (.int .i64 a) := by rw [hW2]; exact x0
  have y1 : W2.cell? ⟨w.heap.size, 1, none⟩ = some (.int .i64 c) := by rw [hW2]; exact x1
  rw [hW3] at hput
  obtain ⟨q3, qX0, qX1, q0⟩ := hM5
  unfold plV at l1 l5 hput ⊢
  clear h hl hl5 hb1 hX h1 hmW hrow hM hM3 hb13 hend hW1 hW2 hW3 ha hc c1 c2 hs1 hs2 hs3 hb2 hb3 hg3 hmp3 hmp5 hP hg5 hs5 h5 hr5 hv5 hno hz hpm hXm
  go_enter Try.func44, Try.ntmps44
  go_wp2_with fail
  rw [← HW1.out]
  go_region_held3 (fun w' => w'.cell? ⟨p, 3, none⟩ = some (.map (some m)) ∧ w'.cell? ⟨w.heap.size, 0, none⟩ = some (.int .i64 a) ∧ w'.cell? ⟨w.heap.size, 1, none⟩ = some (.int .i64 c) ∧ w'.cell? ⟨p, 0, none⟩ = some (.int .i64 (S.n : Int)))
    (first | (go_keep; done) | (change Mc4 p w.heap.size a c S.n m _; with_reducible exact HM1.out))
    (first | fail)
  all_goals
    clear l1 c0 c3 x0 x1
    go_wp2_with fail
    rw [← HW2.out]
    go_region_held3 (fun w' => w'.cell? ⟨p, 3, none⟩ = some (.map (some m)) ∧ w'.cell? ⟨w.heap.size, 0, none⟩ = some (.int .i64 a) ∧ w'.cell? ⟨w.heap.size, 1, none⟩ = some (.int .i64 c) ∧ w'.cell? ⟨p, 0, none⟩ = some (.int .i64 (S.n : Int)))
      (first | (go_keep; done) | (change Mc4 p w.heap.size a c S.n m _; (first | with_reducible exact HM2.out | with_reducible exact HM5.out | (rw [← HW3.out]; exact HM3.out))))
      (first | fail)
  all_goals
    clear hput d0 d3 y0 y1
    go_wp2_with fail
    go_region_held3 (fun w' => w'.cell? ⟨p, 3, none⟩ = some (.map (some m)) ∧ w'.cell? ⟨w.heap.size, 0, none⟩ = some (.int .i64 a) ∧ w'.cell? ⟨w.heap.size, 1, none⟩ = some (.int .i64 c) ∧ w'.cell? ⟨p, 0, none⟩ = some (.int .i64 (S.n : Int)))
      (first | (go_keep; done) | (change Mc4 p w.heap.size a c S.n m _; (first | with_reducible exact HM6.out | with_reducible exact HM7.out)))
      (first | fail)
  all_goals
    clear l5 gc gf q0 q3 qX0 qX1
    go_wp2_with fail
    go_end0
    exact HE.out
theorem move_any (a c : Int) (k : Nat) (x : Int) (h : Lgw w p S f m ve vs rows) (ha : Am a) (hc : Am c) (hk : k < S.n) :
    Calls Try.prog 44 #[.pointer (some ⟨p, 0, none⟩), plV a c, .int .i64 (k : Int), .int .i64 x] w (MovR w p S f m ve vs rows a c k x) := by
  obtain ⟨v, hl, hv⟩ := tbl_look h.tbl ha hc
  rcases hv with ⟨rfl, hz⟩ | ⟨g, rfl, hr, _⟩
  · refine move_none a c k x h ha hc hk (fun y hy e => ?_) hz hl
    have hM := h.tbl.map
    obtain ⟨u, hu1, hu2⟩ := hM.look lawPlace Try.underlying60 (zeroI64s w) (ky_place ha hc)
    rw [hl w rfl] at hu1
    injection hu1 with hu1
    subst hu1
    have hin : (plV a c, Value.slice (some ⟨y.2.2, 0, none⟩) S.n S.n) ∈ rows.map (fun x => (plV x.1 x.2.1, Value.slice (some ⟨x.2.2, 0, none⟩) S.n S.n)) := List.mem_map.2 ⟨y, hy, by rw [e.1, e.2]⟩
    rcases hu2 with ⟨_, h7⟩ | h7
    · exact absurd rfl (h7 _ hin)
    · have := hM.one h7 hin
      cases this
  · exact move_some a c k x h hk hr hl
end
end Go.Proofs.Ytginbgclifdfiaa
