/- The reference's ledger in memory; its sum. -/
import Derived.Test.YtiaocahcdbikhaaAcZ
import Derived.Test.YtiaocahcdbikhaaZ
namespace Go.Proofs.Ytiaocahcdbikhaa
open Go.RowKit

structure Inr9 (O : Nat → Prop) (r : Nat) (ve : Value) (vs : List Value) : Prop where
  r : O r
  ve : ∀ g, ve.ownBlock = some g → O g
  vs : ∀ v ∈ vs, ∀ g, v.ownBlock = some g → O g
/-- entries that are few, of few postings, of amounts -/
def RlOk (L : List En) : Prop := L.length ≤ 5000 ∧ ∀ e ∈ L, e.ps.length ≤ 32 ∧ ∀ x ∈ e.ps, Am x.m
section
variable {w w' : World} {r : Nat} {S : Ld} {ve : Value} {vs : List Value} {O : Nat → Prop}
/-- its three cells -/
def Rc (w : World) (r : Nat) (S : Ld) (a : Option Addr) (c : Nat) : Prop :=
  w.cell? ⟨r, 0, none⟩ = some (.int .i64 (S.n : Int)) ∧ w.cell? ⟨r, 1, none⟩ = some (.int .i64 (S.op : Int)) ∧ w.cell? ⟨r, 2, none⟩ = some (.slice a S.L.length c)
theorem Rc.up {a : Option Addr} {c : Nat} (h : Rc w r S a c) (q : Below w.heap.size w w') : Rc w' r S a c := ⟨kcell q h.1, kcell q h.2.1, kcell q h.2.2⟩

/-! bounds -/
theorem small_of {n : Int} (h0 : -100000000000000000000000000 ≤ n) (h1 : n ≤ 100000000000000000000000000) : Small n := by
  unfold Small
  have h3 : (1000 : Int) ^ 9 * 1 ≤ 1000 ^ (9 + 191) := by
    rw [Int.pow_add]; exact Int.mul_le_mul_of_nonneg_left (by have := pow_pos' 191; omega) (by decide)
  have h4 : (1000 : Int) ^ 9 = 1000000000000000000000000000 := by decide
  have h5 : (1000 : Int) ^ (9 + 191) = 1000 ^ 200 := rfl
  rw [h4, h5] at h3
  generalize (1000 : Int) ^ 200 = P at *
  omega
end
end Go.Proofs.Ytiaocahcdbikhaa
