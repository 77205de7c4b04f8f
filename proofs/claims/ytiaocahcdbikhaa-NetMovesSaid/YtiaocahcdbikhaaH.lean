/- Contracts: an amount, part times. -/
import Derived.Test.YtiaocahcdbikhaaS
namespace Go.Proofs.Ytiaocahcdbikhaa
open Go.RowKit

/-- a share in memory -/
def RowSh (W : World) (p : Nat) (x m : Int) : Prop := Row3 W p (.int .u64 (hiW (x / m))) (.int .u64 (loW (x / m))) (.int .u64 (x % m))

/-- what holds at both labels: the sum is a share of X -/
def Inv (N p q : Nat) (w : World) (a m X : Int) (W : World) : Prop :=
  Below N w W ∧ N < p ∧ p < q ∧ Row3 W N (.int .u64 0) (.int .u64 0) (.int .u64 0) ∧ RowSh W p a m ∧ RowSh W q X m

def AtNext (N p q : Nat) (w : World) (a part m : Int) (A : Act) (W : World) : Prop :=
  ∃ (k : Nat) (u10 u11 u12 u13 u14 u15 u16 u17 u18 u19 u20 u21 u22 u23 u24 u25 u26 u27 u28 u29 u30 u31 u32 u33 u34 u35 : Value), k ≤ 64 ∧ A = { tmps := #[.int .i64 a, .int .i64 part, .int .i64 m, undef, undef, undef, .pointer (some ⟨N, 0, none⟩), .pointer (some ⟨p, 0, none⟩), .pointer (some ⟨q, 0, none⟩), .int .i64 k, u10, u11, u12, u13, u14, u15, u16, u17, u18, u19, u20, u21, u22, u23, u24, u25, u26, u27, u28, u29, u30, u31, u32, u33, u34, u35], defers := [] } ∧ Inv N p q w a m (a * (part / 2 ^ k)) W
def AtOut (N p q : Nat) (w : World) (a part m : Int) (A : Act) (W : World) : Prop :=
  ∃ (u10 u11 u12 u13 u14 u15 u16 u17 u18 u19 u20 u21 u22 u23 u24 u25 u26 u27 u28 u29 u30 u31 u32 u33 u34 u35 : Value), A = { tmps := #[.int .i64 a, .int .i64 part, .int .i64 m, undef, undef, undef, .pointer (some ⟨N, 0, none⟩), .pointer (some ⟨p, 0, none⟩), .pointer (some ⟨q, 0, none⟩), .int .i64 0, u10, u11, u12, u13, u14, u15, u16, u17, u18, u19, u20, u21, u22, u23, u24, u25, u26, u27, u28, u29, u30, u31, u32, u33, u34, u35], defers := [] } ∧ Inv N p q w a m (a * part) W

theorem half {part : Int} (j : Nat) : part / 2 ^ j = 2 * (part / 2 ^ (j + 1)) + part / 2 ^ j % 2 := by
  have h : part / 2 ^ (j + 1) = part / 2 ^ j / 2 := by
    rw [Int.pow_succ, ← Int.ediv_ediv_of_nonneg (Int.le_of_lt (Int.pow_pos (by decide)))]
  rw [h]; omega

end Go.Proofs.Ytiaocahcdbikhaa

namespace Go.Proofs.Ytiaocahcdbikhaa
open Go.RowKit

end Go.Proofs.Ytiaocahcdbikhaa
