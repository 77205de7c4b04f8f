/- Over: what it keeps in memory. -/
import Derived.Test.YtobdcogaphkogaaBy
namespace Go.Proofs.Ytobdcogaphkogaa
open Go.RowKit

theorem Try.infoExact : (Try.prog.info? 69).map (fun i => (i.zero, i.size, i.bytes)) = some (some (.agg #[.int .i64 0, .slice none 0 0]), 2, 32) := by kernel_rfl

def T30 (W : World) (p : Nat) : Prop := ∃ C fr, W.heap[p]? = some (.cells C 69 fr)
theorem T30.lt {W : World} {p : Nat} (h : T30 W p) : p < W.heap.size := by obtain ⟨C, fr, h⟩ := h; exact heap_lt h
theorem T30.below {W W' : World} {p : Nat} (h : T30 W p) (hb : Below W.heap.size W W') : T30 W' p := by
  have l := h.lt
  obtain ⟨C, fr, h⟩ := h
  exact ⟨C, fr, by rw [hb.block _ l]; exact h⟩
theorem T30.set {W : World} {p q : Nat} (h : T30 W p) (k : Nat) (u : Value) : T30 (W.setCell ⟨q, k, none⟩ u) p := by
  by_cases e : p = q
  · subst e; exact type_set h k u
  · obtain ⟨C, fr, h⟩ := h
    exact ⟨C, fr, by rw [Below.heap_setCell W ⟨q, k, none⟩ u p e]; exact h⟩
theorem Ex.set {W : World} {s : Int} {a : Option Addr} {len cap : Nat} {n : Int} (h : Ex W s a len cap n) {q : Nat} (hq : T30 W q) (k : Nat) (u : Value) : Ex (W.setCell ⟨q, k, none⟩ u) s a len cap n := by
  obtain ⟨h1, l, h2, h3, h4⟩ := h
  exact ⟨h1, l, h2, h3.set hq k u, h4⟩
theorem Ex.grown {W W' : World} {row : Option Nat} {s : Int} {a : Option Addr} {len cap : Nat} {n : Int} (h : Ex W s a len cap n) (hg : W.grownBy W' row) (hr : ∀ g, row = some g → T30 W g) : Ex W' s a len cap n := by
  obtain ⟨h1, l, h2, h3, h4⟩ := h
  refine ⟨h1, l, h2, ?_, h4⟩
  rcases h3 with h | ⟨g, q1, q2, ⟨cur, fr, q3⟩, q4⟩
  · exact .inl h
  · have hne : some g ≠ row := by
      intro e
      obtain ⟨C, fr', hT⟩ := hr g e.symm
      rw [q3] at hT; simp at hT
    exact .inr ⟨g, q1, q2, ⟨cur, fr, by rw [hg.block g (heap_lt q3) hne]; exact q3⟩, fun i hi => hg.cell (q4 i hi) hne⟩

/-- an exact number in a block of its own -/
def Box (W : World) (p : Nat) (s : Int) (a : Option Addr) (len cap : Nat) (n : Int) : Prop := Row2 W p (.int .i64 s) (.slice a len cap) ∧ T30 W p ∧ Ex W s a len cap n
theorem Box.below {W W' : World} {p : Nat} {s : Int} {a : Option Addr} {len cap : Nat} {n : Int} (h : Box W p s a len cap n) (hb : Below W.heap.size W W') : Box W' p s a len cap n :=
  ⟨h.1.below hb, h.2.1.below hb, h.2.2.below hb⟩
theorem Box.put {W : World} {p : Nat} {s : Int} {a : Option Addr} {len cap : Nat} {n : Int} (h : Box W p s a len cap n) {t : Int} {b : Option Addr} {len2 cap2 : Nat} {m : Int} (hE : Ex W t b len2 cap2 m) :
    Box ((W.setCell ⟨p, 0, none⟩ (.int .i64 t)).setCell ⟨p, 1, none⟩ (.slice b len2 cap2)) p t b len2 cap2 m :=
  ⟨h.1.put _ _, (h.2.1.set 0 _).set 1 _, (hE.set h.2.1 0 _).set (h.2.1.set 0 _) 1 _⟩
theorem Row2.other {W : World} {p q : Nat} {x y : Value} (h : Row2 W p x y) (hne : q ≠ p) (k : Nat) (u : Value) : Row2 (W.setCell ⟨q, k, none⟩ u) p x y := by
  obtain ⟨h0, h1, f0, f1⟩ := h
  exact ⟨cSet (by show q ≠ p; exact hne) h0, cSet (by show q ≠ p; exact hne) h1, fSet (by show p ≠ q; exact Ne.symm hne) f0, fSet (by show p ≠ q; exact Ne.symm hne) f1⟩
theorem Box.other {W : World} {p q : Nat} {s : Int} {a : Option Addr} {len cap : Nat} {n : Int} (h : Box W p s a len cap n) (hne : q ≠ p) (hq : T30 W q) (u0 u1 : Value) :
    Box ((W.setCell ⟨q, 0, none⟩ u0).setCell ⟨q, 1, none⟩ u1) p s a len cap n :=
  ⟨(h.1.other hne 0 u0).other hne 1 u1, (h.2.1.set 0 u0).set 1 u1, (h.2.2.set hq 0 u0).set (hq.set 0 u0) 1 u1⟩
theorem Row2.grown {W W' : World} {row : Option Nat} {p : Nat} {x y : Value} (h : Row2 W p x y) (hg : W.grownBy W' row) (hne : some p ≠ row) : Row2 W' p x y := by
  have l := h.lt
  obtain ⟨h0, h1, f0, f1⟩ := h
  exact ⟨hg.cell h0 hne, hg.cell h1 hne, (World.frozen?_of_block (w := W) (a := ⟨p, 0, none⟩) (hg.block p l hne)).trans f0, (World.frozen?_of_block (w := W) (a := ⟨p, 1, none⟩) (hg.block p l hne)).trans f1⟩
theorem T30.grown {W W' : World} {row : Option Nat} {p : Nat} (h : T30 W p) (hg : W.grownBy W' row) (hne : some p ≠ row) : T30 W' p := by
  have l := h.lt
  obtain ⟨C, fr, h⟩ := h
  exact ⟨C, fr, by rw [hg.block _ l hne]; exact h⟩
theorem Box.grown {W W' : World} {row : Option Nat} {p : Nat} {s : Int} {a : Option Addr} {len cap : Nat} {n : Int} (h : Box W p s a len cap n) (hg : W.grownBy W' row) (hne : some p ≠ row) (hr : ∀ g, row = some g → T30 W g) : Box W' p s a len cap n :=
  ⟨h.1.grown hg hne, h.2.1.grown hg hne, h.2.2.grown hg hr⟩
theorem Res.box {W : World} {p : Nat} (h : Res W p) : Box W p 0 none 0 0 0 := ⟨h.1, h.2, ex_zero rfl 0⟩
theorem Box.res {W : World} {p : Nat} (h : Box W p 0 none 0 0 0) : Res W p := ⟨h.1, h.2.1⟩
theorem Box.new (W : World) {s : Int} {a : Option Addr} {len cap : Nat} {n : Int} (h : Ex W s a len cap n) : Box (W.alloc (.cells #[.int .i64 s, .slice a len cap] 69)) W.heap.size s a len cap n :=
  ⟨Row2.new _ _ _ _, ⟨_, _, heap_alloc_new W _⟩, h.below ((Below.refl _ _).alloc (Nat.le_refl _) _)⟩

/-- the doubles of b, from the first on -/
def Dbl (W : World) (B : Nat) (v : Value) (k : Nat) (b : Int) : Prop :=
  ∃ xs, W.ownsRow B 69 2 v (k + 1) xs ∧ ∀ i, i ≤ k → ∃ s a len cap, xs[i * 2]? = some (.int .i64 s) ∧ xs[i * 2 + 1]? = some (.slice a len cap) ∧ Ex W s a len cap (b * 2 ^ i)
/-- .. as cells -/
def DC (W : World) (g k : Nat) (b : Int) : Prop :=
  ∀ i, i ≤ k → ∃ s a len cap, W.cell? ⟨g, i * 2, none⟩ = some (.int .i64 s) ∧ W.cell? ⟨g, i * 2 + 1, none⟩ = some (.slice a len cap) ∧ Ex W s a len cap (b * 2 ^ i)
theorem own_below {W W' : World} {B e size n : Nat} {v : Value} {xs : List Value} (h : W.ownsRow B e size v n xs) (hb : Below W.heap.size W W') : W'.ownsRow B e size v n xs := by
  obtain ⟨h1, h2⟩ := h
  refine ⟨h1, ?_⟩
  rcases h2 with h | ⟨g, cap, cur, q1, q2, q3, q4⟩
  · exact .inl h
  · exact .inr ⟨g, cap, cur, q1, q2, by rw [hb.block g (heap_lt q3)]; exact q3, q4⟩
theorem Dbl.below {W W' : World} {B k : Nat} {v : Value} {b : Int} (h : Dbl W B v k b) (hb : Below W.heap.size W W') : Dbl W' B v k b := by
  obtain ⟨xs, h1, h2⟩ := h
  exact ⟨xs, own_below h1 hb, fun i hi => by obtain ⟨s, a, len, cap, q1, q2, q3⟩ := h2 i hi; exact ⟨s, a, len, cap, q1, q2, q3.below hb⟩⟩
theorem Dbl.get {W : World} {B k : Nat} {v : Value} {b : Int} (h : Dbl W B v k b) : ∃ g cap, v = .slice (some ⟨g, 0, none⟩) (k + 1) cap ∧ B ≤ g ∧ T30 W g ∧ DC W g k b := by
  obtain ⟨xs, h1, h2⟩ := h
  have h1' := h1
  obtain ⟨e1, e2⟩ := h1
  rcases e2 with ⟨_, q⟩ | ⟨g, cap, cur, q1, q2, q3, q4⟩
  · omega
  · subst q1
    refine ⟨g, cap, rfl, q2, ⟨cur, (0, 0), q3⟩, fun i hi => ?_⟩
    obtain ⟨s, a, len, cap', r1, r2, r3⟩ := h2 i hi
    exact ⟨s, a, len, cap', by rw [h1'.cellAt _ (by omega)]; exact r1, by rw [h1'.cellAt _ (by omega)]; exact r2, r3⟩
theorem Dbl.row {W : World} {B k : Nat} {v : Value} {b : Int} (h : Dbl W B v k b) : ∀ g, v.ownBlock = some g → T30 W g ∧ B ≤ g := by
  obtain ⟨g, cap, rfl, h2, h3, _⟩ := h.get
  intro g' hg; simp [Value.ownBlock] at hg; subst hg; exact ⟨h3, h2⟩
theorem Dbl.start {W : World} {B : Nat} {s : Int} {a : Option Addr} {len cap : Nat} {b : Int} (h : Ex W s a len cap b) (hB : B ≤ W.heap.size) :
    Dbl (W.alloc (.cells #[.int .i64 s, .slice a len cap] 69)) B (.slice (some ⟨W.heap.size, 0, none⟩) 1 1) 0 b := by
  refine ⟨[.int .i64 s, .slice a len cap], World.ownsRow_lit (e := 69) (size := 2) (base := B) W #[.int .i64 s, .slice a len cap] 1 hB (by unfold maxLen; omega) rfl, fun i hi => ?_⟩
  obtain rfl : i = 0 := by omega
  exact ⟨s, a, len, cap, rfl, rfl, by rw [Int.pow_zero, Int.mul_one]; exact h.below ((Below.refl _ _).alloc (Nat.le_refl _) _)⟩
theorem Dbl.step {W w1 : World} {B k : Nat} {v v' : Value} {b : Int} {xs : List Value} {s : Int} {a : Option Addr} {len cap : Nat} (h1 : W.ownsRow B 69 2 v (k + 1) xs)
    (h2 : ∀ i, i ≤ k → ∃ s a len cap, xs[i * 2]? = some (.int .i64 s) ∧ xs[i * 2 + 1]? = some (.slice a len cap) ∧ Ex W s a len cap (b * 2 ^ i))
    (hE : Ex W s a len cap (b * 2 ^ (k + 1))) (h3 : w1.ownsRow B 69 2 v' (k + 1 + 1) (xs ++ [.int .i64 s, .slice a len cap])) (o : Obj) (h4 : (W.alloc o).grownBy w1 v.ownBlock) : Dbl w1 B v' (k + 1) b := by
  have hD : Dbl W B v k b := ⟨xs, h1, h2⟩
  have hb : Below W.heap.size W (W.alloc o) := (Below.refl _ _).alloc (Nat.le_refl _) _
  have hr : ∀ g, v.ownBlock = some g → T30 (W.alloc o) g := fun g hg => (hD.row g hg).1.below hb
  have hl := h1.1
  refine ⟨_, h3, fun i hi => ?_⟩
  by_cases hk : i ≤ k
  · obtain ⟨s', a', len', cap', q1, q2, q3⟩ := h2 i hk
    exact ⟨s', a', len', cap', by rw [List.getElem?_append_left (by omega)]; exact q1, by rw [List.getElem?_append_left (by omega)]; exact q2, (q3.below hb).grown h4 hr⟩
  · obtain rfl : i = k + 1 := by omega
    refine ⟨s, a, len, cap, ?_, ?_, (hE.below hb).grown h4 hr⟩
    · rw [List.getElem?_append_right (by omega), show (k + 1) * 2 - xs.length = 0 by omega]; rfl
    · rw [List.getElem?_append_right (by omega), show (k + 1) * 2 + 1 - xs.length = 1 by omega]; rfl
theorem DC.below {W W' : World} {g k : Nat} {b : Int} (h : DC W g k b) (hb : Below W.heap.size W W') : DC W' g k b := fun i hi => by
  obtain ⟨s, a, len, cap, q1, q2, q3⟩ := h i hi
  exact ⟨s, a, len, cap, kcell hb q1, kcell hb q2, q3.below hb⟩
theorem DC.other {W : World} {g k q : Nat} {b : Int} (h : DC W g k b) (hne : q ≠ g) (hq : T30 W q) (u0 u1 : Value) : DC ((W.setCell ⟨q, 0, none⟩ u0).setCell ⟨q, 1, none⟩ u1) g k b := fun i hi => by
  obtain ⟨s, a, len, cap, q1, q2, q3⟩ := h i hi
  exact ⟨s, a, len, cap, cSet (by show q ≠ g; exact hne) (cSet (by show q ≠ g; exact hne) q1), cSet (by show q ≠ g; exact hne) (cSet (by show q ≠ g; exact hne) q2), (q3.set hq 0 u0).set (hq.set 0 u0) 1 u1⟩
end Go.Proofs.Ytobdcogaphkogaa
