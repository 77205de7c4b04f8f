/- Sums in boxes; what a store into a block of another type leaves of exact numbers. -/
import Derived.Test.YtlplbgandehkcaaBk
import Derived.Test.YtlplbgandehkcaaZ
namespace Go.Proofs.Ytlplbgandehkcaa
open Go.RowKit

theorem mul_small {a b : Int} (ha : Am a) (hb : Am b) : Small (a * b) := by
  unfold Am at ha hb
  have h1 : a.natAbs ≤ 9223372036854775808 := by omega
  have h2 : b.natAbs ≤ 9223372036854775808 := by omega
  have h3 : (a * b).natAbs ≤ 9223372036854775808 * 9223372036854775808 := by
    rw [Int.natAbs_mul]; exact Nat.mul_le_mul h1 h2
  have h3' : ((a * b).natAbs : Int) ≤ 85070591730234615865843651857942052864 := by omega
  have h5 : (1000 : Int) ^ 20 * 1 ≤ 1000 ^ (20 + 180) := by
    rw [Int.pow_add]; exact Int.mul_le_mul_of_nonneg_left (by have := pow_pos' 180; omega) (by decide)
  have h6 : (1000 : Int) ^ 20 = 1000000000000000000000000000000000000000000000000000000000000 := by decide
  have h7 : (1000 : Int) ^ (20 + 180) = 1000 ^ 200 := rfl
  rw [h6, h7] at h5
  unfold Small
  generalize (1000 : Int) ^ 200 = P at *
  omega
/-- digits lie in blocks of integers: a store into a block of another type leaves them -/
theorem Dg.off {W : World} {a : Option Addr} {cap : Nat} {l : List Int} (h : Dg W a cap l) {N T : Nat} {cs : Array Value} (hN : Has W N T cs) (hT : T ≠ 3) (k : Nat) (u : Value) : Dg (W.setCell ⟨N, k, none⟩ u) a cap l := by
  rcases h with h | ⟨g, h1, h2, ⟨cur, fr, h4⟩, h3⟩
  · exact .inl h
  · have hne : g ≠ N := by
      intro e; subst e
      unfold Has at hN
      rw [hN] at h4
      injection h4 with h4
      injection h4 with _ e
      exact hT e
    refine .inr ⟨g, h1, h2, ⟨cur, fr, ?_⟩, fun i hi => cset (h3 i hi) (.inl hne)⟩
    rw [Below.heap_setCell W ⟨N, k, none⟩ u g hne]; exact h4
theorem Ex.off {W : World} {s : Int} {a : Option Addr} {len cap : Nat} {n : Int} (h : Ex W s a len cap n) {N T : Nat} {cs : Array Value} (hN : Has W N T cs) (hT : T ≠ 3) (k : Nat) (u : Value) : Ex (W.setCell ⟨N, k, none⟩ u) s a len cap n := by
  obtain ⟨h1, l, h2, h3, h4⟩ := h
  exact ⟨h1, l, h2, h3.off hN hT k u, h4⟩
/-- a sum in a box -/
structure SmX (W : World) (b : Nat) (v s : Int) (a : Option Addr) (len cap : Nat) : Prop where
  has : Has W b 57 #[.int .i64 s, .slice a len cap]
  ex : Ex W s a len cap v
section
variable {W W' : World} {b : Nat} {v s : Int} {a : Option Addr} {len cap : Nat}
theorem SmX.up (h : SmX W b v s a len cap) (q : Below W.heap.size W W') : SmX W' b v s a len cap := ⟨h.has.up q, h.ex.below q⟩
theorem SmX.drew (h : SmX W b v s a len cap) : SmX W.drew b v s a len cap := h.up (Below.refl _ _).drew
theorem SmX.start (w : World) : SmX (w.alloc (.cells #[.int .i64 0, .slice none 0 0] 57)) w.heap.size 0 0 none 0 0 := ⟨Has.fresh _ _ _, ex_zero rfl 0⟩
theorem SmX.row (h : SmX W b v s a len cap) : Row2 W b (.int .i64 s) (.slice a len cap) := ⟨h.has.cell 0, h.has.cell 1, h.has.free 0, h.has.free 1⟩
theorem SmX.put (h : SmX W b v s a len cap) {t m : Int} {a2 : Option Addr} {len2 cap2 : Nat} (hE : Ex W t a2 len2 cap2 m) : SmX ((W.setCell ⟨b, 0, none⟩ (.int .i64 t)).setCell ⟨b, 1, none⟩ (.slice a2 len2 cap2)) b m t a2 len2 cap2 := by
  have h1 := h.has.put 0 (.int .i64 t)
  exact ⟨h1.put 1 _, (hE.off h.has (by decide) 0 _).off h1 (by decide) 1 _⟩
/-- a store into another box of another type, or of exact numbers -/
theorem SmX.off (h : SmX W b v s a len cap) {N T : Nat} {cs : Array Value} (hN : Has W N T cs) (hT : T ≠ 3) (hne : b ≠ N) (k : Nat) (u : Value) : SmX (W.setCell ⟨N, k, none⟩ u) b v s a len cap :=
  ⟨h.has.off (p := ⟨N, k, none⟩) hne u, h.ex.off hN hT k u⟩
end
theorem small126 {x : Int} (h : -85070591730234615865843651857942052864 ≤ x ∧ x ≤ 85070591730234615865843651857942052864) : Small x := by
  have h3' : (x.natAbs : Int) ≤ 85070591730234615865843651857942052864 := by omega
  have h5 : (1000 : Int) ^ 20 * 1 ≤ 1000 ^ (20 + 180) := by
    rw [Int.pow_add]; exact Int.mul_le_mul_of_nonneg_left (by have := pow_pos' 180; omega) (by decide)
  have h6 : (1000 : Int) ^ 20 = 1000000000000000000000000000000000000000000000000000000000000 := by decide
  have h7 : (1000 : Int) ^ (20 + 180) = 1000 ^ 200 := rfl
  rw [h6, h7] at h5
  unfold Small
  generalize (1000 : Int) ^ 200 = P at *
  omega
theorem SmX.of {W : World} {s : Int} {a : Option Addr} {len cap : Nat} {n : Int} (h : Ex W s a len cap n) : SmX (W.alloc (.cells #[.int .i64 s, .slice a len cap] 57)) W.heap.size n s a len cap :=
  ⟨Has.fresh _ _ _, h.below (boxed _ _)⟩
theorem SmX.lt {W : World} {b : Nat} {v s : Int} {a : Option Addr} {len cap : Nat} (h : SmX W b v s a len cap) : b < W.heap.size := h.has.lt
end Go.Proofs.Ytlplbgandehkcaa
