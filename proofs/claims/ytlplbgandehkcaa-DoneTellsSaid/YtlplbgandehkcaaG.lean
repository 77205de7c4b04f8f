/- Contracts: an amount, part times. -/
import Derived.Test.YtlplbgandehkcaaS
namespace Go.Proofs.Ytlplbgandehkcaa
open Go.RowKit

/-- a share in memory -/
def RowSh (W : World) (p : Nat) (x m : Int) : Prop := Row3 W p (.int .u64 (hiW (x / m))) (.int .u64 (loW (x / m))) (.int .u64 (x % m))

/-- what holds at both labels: the sum is a share of X -/
def Inv (N p q : Nat) (w : World) (a m X : Int) (W : World) : Prop :=
  Below N w W ∧ N < p ∧ p < q ∧ Row3 W N (.int .u64 0) (.int .u64 0) (.int .u64 0) ∧ RowSh W p a m ∧ RowSh W q X m

theorem inv_put_raw {N p q : Nat} {w W w1 : World} {z x0 x1 x2 v0 v1 v2 : Value} (hB : Below N w W) (h1 : N < p) (h2 : p < q) (hN : Row3 W N z z z) (hP : Row3 W p x0 x1 x2) (hQ : Row3 W q v0 v1 v2) (hb : Below W.heap.size W w1) (y0 y1 y2 : Value) :
    Below N w (((w1.setCell ⟨q, 0, none⟩ y0).setCell ⟨q, 1, none⟩ y1).setCell ⟨q, 2, none⟩ y2) ∧ Row3 (((w1.setCell ⟨q, 0, none⟩ y0).setCell ⟨q, 1, none⟩ y1).setCell ⟨q, 2, none⟩ y2) N z z z ∧
    Row3 (((w1.setCell ⟨q, 0, none⟩ y0).setCell ⟨q, 1, none⟩ y1).setCell ⟨q, 2, none⟩ y2) p x0 x1 x2 ∧ Row3 (((w1.setCell ⟨q, 0, none⟩ y0).setCell ⟨q, 1, none⟩ y1).setCell ⟨q, 2, none⟩ y2) q y0 y1 y2 := by
  have l := Row3.lt hN
  have n1 : q ≠ N := by omega
  have n2 : q ≠ p := by omega
  have n3 : N ≤ q := by omega
  have hB1 := hB.trans (hb.mono (by omega))
  have hN1 := hN.below hb
  have hP1 := hP.below hb
  have hQ1 := hQ.below hb
  exact ⟨((hB1.setCell (p := ⟨q, 0, none⟩) n3 y0).setCell (p := ⟨q, 1, none⟩) n3 y1).setCell (p := ⟨q, 2, none⟩) n3 y2,
    ((hN1.set (a := ⟨q, 0, none⟩) n1 y0).set (a := ⟨q, 1, none⟩) n1 y1).set (a := ⟨q, 2, none⟩) n1 y2,
    ((hP1.set (a := ⟨q, 0, none⟩) n2 y0).set (a := ⟨q, 1, none⟩) n2 y1).set (a := ⟨q, 2, none⟩) n2 y2, hQ1.put y0 y1 y2⟩

theorem inv_put {N p q : Nat} {w W w1 : World} {a m X : Int} (h : Inv N p q w a m X W) (hb : Below W.heap.size W w1) (Y : Int) :
    Inv N p q w a m Y (((w1.setCell ⟨q, 0, none⟩ (.int .u64 (hiW (Y / m)))).setCell ⟨q, 1, none⟩ (.int .u64 (loW (Y / m)))).setCell ⟨q, 2, none⟩ (.int .u64 (Y % m))) := by
  unfold Inv RowSh at *
  obtain ⟨hB, h1, h2, hN, hP, hQ⟩ := h
  obtain ⟨r1, r2, r3, r4⟩ := inv_put_raw hB h1 h2 hN hP hQ hb (.int .u64 (hiW (Y / m))) (.int .u64 (loW (Y / m))) (.int .u64 (Y % m))
  exact ⟨r1, h1, h2, r2, r3, r4⟩

def AtNext (N p q : Nat) (w : World) (a part m : Int) (A : Act) (W : World) : Prop :=
  ∃ (k : Nat) (u10 u11 u12 u13 u14 u15 u16 u17 u18 u19 u20 u21 u22 u23 u24 u25 u26 u27 u28 u29 u30 u31 u32 u33 u34 u35 : Value), k ≤ 64 ∧ A = { tmps := #[.int .i64 a, .int .i64 part, .int .i64 m, undef, undef, undef, .pointer (some ⟨N, 0, none⟩), .pointer (some ⟨p, 0, none⟩), .pointer (some ⟨q, 0, none⟩), .int .i64 k, u10, u11, u12, u13, u14, u15, u16, u17, u18, u19, u20, u21, u22, u23, u24, u25, u26, u27, u28, u29, u30, u31, u32, u33, u34, u35], defers := [] } ∧ Inv N p q w a m (a * (part / 2 ^ k)) W
def AtOut (N p q : Nat) (w : World) (a part m : Int) (A : Act) (W : World) : Prop :=
  ∃ (u10 u11 u12 u13 u14 u15 u16 u17 u18 u19 u20 u21 u22 u23 u24 u25 u26 u27 u28 u29 u30 u31 u32 u33 u34 u35 : Value), A = { tmps := #[.int .i64 a, .int .i64 part, .int .i64 m, undef, undef, undef, .pointer (some ⟨N, 0, none⟩), .pointer (some ⟨p, 0, none⟩), .pointer (some ⟨q, 0, none⟩), .int .i64 0, u10, u11, u12, u13, u14, u15, u16, u17, u18, u19, u20, u21, u22, u23, u24, u25, u26, u27, u28, u29, u30, u31, u32, u33, u34, u35], defers := [] } ∧ Inv N p q w a m (a * part) W

theorem and_one_i64 (E : Int) (h0 : 0 ≤ E) (h1 : E ≤ 9223372036854775807) : bits BinOp.and IntKind.i64 E 1 = E % 2 := by
  obtain ⟨n, rfl⟩ := Int.eq_ofNat_of_zero_le h0
  have h2 : n % 18446744073709551616 = n := Nat.mod_eq_of_lt (by omega)
  have h3 : ((BitVec.ofInt 64 (n : Int)) &&& (BitVec.ofInt 64 1)).toNat = n % 2 := by
    rw [BitVec.toNat_and]
    have e1 : (BitVec.ofInt 64 (n : Int)).toNat = n := by simp; omega
    have e2 : (BitVec.ofInt 64 (1 : Int)).toNat = 1 := by decide
    rw [e1, e2, Nat.and_one_is_mod]
  show IntKind.i64.wrap (((BitVec.ofInt 64 (n : Int)) &&& (BitVec.ofInt 64 1)).toNat : Int) = _
  rw [h3, wrap_sgn, sgn]
  omega

theorem half {part : Int} (j : Nat) : part / 2 ^ j = 2 * (part / 2 ^ (j + 1)) + part / 2 ^ j % 2 := by
  have h : part / 2 ^ (j + 1) = part / 2 ^ j / 2 := by
    rw [Int.pow_succ, ← Int.ediv_ediv_of_nonneg (Int.le_of_lt (Int.pow_pos (by decide)))]
  rw [h]; omega

theorem pow_bd {part : Int} (j : Nat) (p1 : 0 ≤ part) (p2 : part ≤ 9223372036854775807) : 0 ≤ part / 2 ^ j ∧ part / 2 ^ j ≤ 9223372036854775807 := by
  have hp : (0 : Int) < 2 ^ j := Int.pow_pos (by decide)
  exact ⟨Int.ediv_nonneg p1 (Int.le_of_lt hp), Int.le_trans (Int.ediv_le_self _ p1) p2⟩

theorem row_zero {W : World} {p : Nat} {x m : Int} (hx : x = 0) (h : Row3 W p (.int .u64 0) (.int .u64 0) (.int .u64 0)) : RowSh W p x m := by
  subst hx
  unfold RowSh
  have e0 : (0 : Int) / m = 0 := Int.zero_ediv m
  have e1 : (0 : Int) % m = 0 := Int.zero_emod m
  have e2 : hiW 0 = 0 := by decide
  have e3 : loW 0 = 0 := by decide
  rw [e0, e1, e2, e3]; exact h

end Go.Proofs.Ytlplbgandehkcaa
