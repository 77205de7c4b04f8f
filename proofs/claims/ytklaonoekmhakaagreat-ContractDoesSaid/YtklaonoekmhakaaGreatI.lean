/- Contracts: an amount, part times. -/
import Derived.Test.YtklaonoekmhakaaGreatS
namespace Go.Proofs.YtklaonoekmhakaaGreat
open Go.RowKit

/-- a share in memory -/
def RowSh (W : World) (p : Nat) (x m : Int) : Prop := Row3 W p (.int .u64 (hiW (x / m))) (.int .u64 (loW (x / m))) (.int .u64 (x % m))

/-- what holds at both labels: the sum is a share of X -/
def Inv (N p q : Nat) (w : World) (a m X : Int) (W : World) : Prop :=
  Below N w W ∧ N < p ∧ p < q ∧ Row3 W N (.int .u64 0) (.int .u64 0) (.int .u64 0) ∧ RowSh W p a m ∧ RowSh W q X m

theorem inv_put_raw {N p q : Nat} {w W w1 : World} {z x0 x1 x2 v0 v1 v2 : Value} (hB : Below N w W) (h1 : N < p) (h2 : p < q) (hN : Row3 W N z z z) (hP : Row3 W p x0 x1 x2) (hQ : Row3 W q v0 v1 v2) (hb : Below W.heap.size W w1) (y0 y1 y2 : Value) :
    Below N w (((w1.setCell ⟨q, 0, none⟩ y0).setCell ⟨q, 1, none⟩ y1).setCell ⟨q, 2, none⟩ y2) ∧ Row3 (((w1.setCell ⟨q, 0, none⟩ y0).setCell ⟨q, 1, none⟩ y1).setCell ⟨q, 2, none⟩ y2) N z z z ∧
    Row3 (((w1.setCell ⟨q, 0, none⟩ y0).setCell ⟨q, 1, none⟩ y1).setCell ⟨q, 2, none⟩ y2) p x0 x1 x2 ∧ Row3 (((w1.setCell ⟨q, 0, none⟩ y0).setCell ⟨q, 1, none⟩ y1).setCell ⟨q, 2, none⟩ y2) q y0 y1 y2 := by
  have l := Row3.lt hN
  have n1 : q ≠ N := by omega
  have n2 : q ≠ p := by omega
  have n3 : N ≤ q := by omega
  have hB1 := hB.trans (hb.mono (by omega))
  have hN1 := hN.below hb
  have hP1 := hP.below hb
  have hQ1 := hQ.below hb
  exact ⟨((hB1.setCell (p := ⟨q, 0, none⟩) n3 y0).setCell (p := ⟨q, 1, none⟩) n3 y1).setCell (p := ⟨q, 2, none⟩) n3 y2,
    ((hN1.set (a := ⟨q, 0, none⟩) n1 y0).set (a := ⟨q, 1, none⟩) n1 y1).set (a := ⟨q, 2, none⟩) n1 y2,
    ((hP1.set (a := ⟨q, 0, none⟩) n2 y0).set (a := ⟨q, 1, none⟩) n2 y1).set (a := ⟨q, 2, none⟩) n2 y2, hQ1.put y0 y1 y2⟩

theorem inv_put {N p q : Nat} {w W w1 : World} {a m X : Int} (h : Inv N p q w a m X W) (hb : Below W.heap.size W w1) (Y : Int) :
    Inv N p q w a m Y (((w1.setCell ⟨q, 0, none⟩ (.int .u64 (hiW (Y / m)))).setCell ⟨q, 1, none⟩ (.int .u64 (loW (Y / m)))).setCell ⟨q, 2, none⟩ (.int .u64 (Y % m))) := by
  unfold Inv RowSh at *
  obtain ⟨hB, h1, h2, hN, hP, hQ⟩ := h
  obtain ⟨r1, r2, r3, r4⟩ := inv_put_raw hB h1 h2 hN hP hQ hb (.int .u64 (hiW (Y / m))) (.int .u64 (loW (Y / m))) (.int .u64 (Y % m))
  exact ⟨r1, h1, h2, r2, r3, r4⟩

def AtNext (N p q : Nat) (w : World) (a part m : Int) (A : Act) (W : World) : Prop :=
  ∃ (k : Nat) (u10 u11 u12 u13 u14 u15 u16 u17 u18 u19 u20 u21 u22 u23 u24 u25 u26 u27 u28 u29 u30 u31 u32 u33 u34 u35 : Value), k ≤ 64 ∧ A = { tmps := #[.int .i64 a, .int .i64 part, .int .i64 m, undef, undef, undef, .pointer (some ⟨N, 0, none⟩), .pointer (some ⟨p, 0, none⟩), .pointer (some ⟨q, 0, none⟩), .int .i64 k, u10, u11, u12, u13, u14, u15, u16, u17, u18, u19, u20, u21, u22, u23, u24, u25, u26, u27, u28, u29, u30, u31, u32, u33, u34, u35], defers := [] } ∧ Inv N p q w a m (a * (part / 2 ^ k)) W
def AtOut (N p q : Nat) (w : World) (a part m : Int) (A : Act) (W : World) : Prop :=
  ∃ (u10 u11 u12 u13 u14 u15 u16 u17 u18 u19 u20 u21 u22 u23 u24 u25 u26 u27 u28 u29 u30 u31 u32 u33 u34 u35 : Value), A = { tmps := #[.int .i64 a, .int .i64 part, .int .i64 m, undef, undef, undef, .pointer (some ⟨N, 0, none⟩), .pointer (some ⟨p, 0, none⟩), .pointer (some ⟨q, 0, none⟩), .int .i64 0, u10, u11, u12, u13, u14, u15, u16, u17, u18, u19, u20, u21, u22, u23, u24, u25, u26, u27, u28, u29, u30, u31, u32, u33, u34, u35], defers := [] } ∧ Inv N p q w a m (a * part) W

theorem splus_x (x y m : Int) (w : World) (hm : 1 ≤ m) (hm2 : m ≤ 9223372036854775807) :
    Calls Tryz.prog 129 #[.agg #[.int .u64 (hiW (x / m)), .int .u64 (loW (x / m)), .int .u64 (x % m)], .agg #[.int .u64 (hiW (y / m)), .int .u64 (loW (y / m)), .int .u64 (y % m)], .int .u64 m] w fun e w' =>
      e = .returned (.agg #[.int .u64 (hiW ((x + y) / m)), .int .u64 (loW ((x + y) / m)), .int .u64 ((x + y) % m)]) ∧ Below w.heap.size w w' := splus_any x y m w hm hm2
theorem once_x (a m : Int) (w : World) (a1 : -9223372036854775808 ≤ a) (a2 : a ≤ 9223372036854775807) (hm : 1 ≤ m) (hm2 : m ≤ 9223372036854775807) :
    Calls Tryz.prog 127 #[.int .i64 a, .int .i64 m] w fun e w' => e = .returned (.agg #[.int .u64 (hiW (a / m)), .int .u64 (loW (a / m)), .int .u64 (a % m)]) ∧ Below w.heap.size w w' := once_any a m w a1 a2 hm hm2

theorem and_one_i64 (E : Int) (h0 : 0 ≤ E) (h1 : E ≤ 9223372036854775807) : bits BinOp.and IntKind.i64 E 1 = E % 2 := by
  obtain ⟨n, rfl⟩ := Int.eq_ofNat_of_zero_le h0
  have h2 : n % 18446744073709551616 = n := Nat.mod_eq_of_lt (by omega)
  have h3 : ((BitVec.ofInt 64 (n : Int)) &&& (BitVec.ofInt 64 1)).toNat = n % 2 := by
    rw [BitVec.toNat_and]
    have e1 : (BitVec.ofInt 64 (n : Int)).toNat = n := by simp; omega
    have e2 : (BitVec.ofInt 64 (1 : Int)).toNat = 1 := by decide
    rw [e1, e2, Nat.and_one_is_mod]
  show IntKind.i64.wrap (((BitVec.ofInt 64 (n : Int)) &&& (BitVec.ofInt 64 1)).toNat : Int) = _
  rw [h3, wrap_sgn, sgn]
  omega

theorem half {part : Int} (j : Nat) : part / 2 ^ j = 2 * (part / 2 ^ (j + 1)) + part / 2 ^ j % 2 := by
  have h : part / 2 ^ (j + 1) = part / 2 ^ j / 2 := by
    rw [Int.pow_succ, ← Int.ediv_ediv_of_nonneg (Int.le_of_lt (Int.pow_pos (by decide)))]
  rw [h]; omega

theorem pow_bd {part : Int} (j : Nat) (p1 : 0 ≤ part) (p2 : part ≤ 9223372036854775807) : 0 ≤ part / 2 ^ j ∧ part / 2 ^ j ≤ 9223372036854775807 := by
  have hp : (0 : Int) < 2 ^ j := Int.pow_pos (by decide)
  exact ⟨Int.ediv_nonneg p1 (Int.le_of_lt hp), Int.le_trans (Int.ediv_le_self _ p1) p2⟩

theorem row_zero {W : World} {p : Nat} {x m : Int} (hx : x = 0) (h : Row3 W p (.int .u64 0) (.int .u64 0) (.int .u64 0)) : RowSh W p x m := by
  subst hx
  unfold RowSh
  have e0 : (0 : Int) / m = 0 := Int.zero_ediv m
  have e1 : (0 : Int) % m = 0 := Int.zero_emod m
  have e2 : hiW 0 = 0 := by decide
  have e3 : loW 0 = 0 := by decide
  rw [e0, e1, e2, e3]; exact h

theorem inv_start {w w1 : World} {a m x : Int} (hb1 : Below w.heap.size w w1) (hN : Row3 w1 w.heap.size (.int .u64 0) (.int .u64 0) (.int .u64 0)) (hx : x = 0) :
    Inv w.heap.size w1.heap.size (w1.heap.size + 1) w a m x ((w1.alloc (.cells #[.int .u64 (hiW (a / m)), .int .u64 (loW (a / m)), .int .u64 (a % m)] 162)).alloc (.cells #[.int .u64 0, .int .u64 0, .int .u64 0] 162)) := by
  have l := Row3.lt hN
  have h1 := Row3.new w1 (.int .u64 (hiW (a / m))) (.int .u64 (loW (a / m))) (.int .u64 (a % m)) 162
  have h2 := Row3.new (w1.alloc (.cells #[.int .u64 (hiW (a / m)), .int .u64 (loW (a / m)), .int .u64 (a % m)] 162)) (.int .u64 0) (.int .u64 0) (.int .u64 0) 162
  rw [World.size_alloc] at h2
  refine ⟨(hb1.alloc (by omega) _).alloc (by simp; omega) _, l, by omega, (hN.alloc _).alloc _, ?_, row_zero hx h2⟩
  unfold RowSh
  exact h1.alloc _

set_option maxHeartbeats 800000 in
theorem times_any (a part m : Int) (w : World) (a1 : -9223372036854775808 ≤ a) (a2 : a ≤ 9223372036854775807) (p1 : 0 ≤ part) (p2 : part ≤ 9223372036854775807) (hm : 1 ≤ m) (hm2 : m ≤ 9223372036854775807) :
    Calls Tryz.prog 96 #[.int .i64 a, .int .i64 part, .int .i64 m] w fun e w' => e = .returned (.agg #[.int .u64 (hiW (a * part / m)), .int .u64 (loW (a * part / m)), .int .u64 (a * part % m)]) ∧ Below w.heap.size w w' := by
  have hw := wrap_u (n := m) (by omega) (by omega)
  have hp := wrap_u (n := part) (by omega) (by omega)
  go_enter Tryz.func96, Tryz.ntmps96
  go_wp2_with fail
  refine wp_scope_two 1 0 (fun A W => ∃ p q, AtNext w.heap.size p q w a part m A W) (fun A W => ∃ p q, AtOut w.heap.size p q w a part m A W) (fun A _ => (intOf (A.tmps.getD 9 undef)).toNat) rfl rfl ?pass ?out ?first
  case pass =>
    rintro A W ⟨p, q, k, u10, u11, u12, u13, u14, u15, u16, u17, u18, u19, u20, u21, u22, u23, u24, u25, u26, u27, u28, u29, u30, u31, u32, u33, u34, u35, hk, rfl, hI⟩
    have HI := Lib.hid hI
    obtain ⟨hB, hNp, hpq, hN, hP, hQ⟩ := hI
    unfold RowSh Row3 at hP hQ
    obtain ⟨c0, c1, c2, e0, e1, e2⟩ := hP
    obtain ⟨d0, d1, d2, g0, g1, g2⟩ := hQ
    by_cases hz : k = 0
    · subst hz
      go_wp2_with fail
      go_step3
      exact Or.inr ⟨rfl, p, q, _, _, _, _, _, _, _, _, _, _, _, _, _, _, _, _, _, _, _, _, _, _, _, _, _, _, rfl, (by have h := HI.out; rw [Int.pow_zero, Int.ediv_one] at h; exact h)⟩
    · obtain ⟨j, rfl⟩ : ∃ j, k = j + 1 := ⟨k - 1, by omega⟩
      clear hz
      have hb01 := pow_bd j p1 p2
      have hand := and_one_i64 (part / 2 ^ j) hb01.1 hb01.2
      have hhalf := half (part := part) j
      by_cases hbit : part / 2 ^ j % 2 = 0
      · have hbb : (bits BinOp.and IntKind.i64 (part / 2 ^ j) 1 == 0) = true := by rw [hand, hbit]; rfl
        have HX : Hid (a * (part / 2 ^ (j + 1)) + a * (part / 2 ^ (j + 1)) = a * (part / 2 ^ j)) := by
          rw [hhalf, hbit, Int.add_zero, ← Int.mul_add]; congr 1; omega
        clear hand hhalf hbit hb01
        generalize a * (part / 2 ^ (j + 1)) = X at d0 d1 d2 HX HI
        go_wp2_with fail
        refine (splus_x X X m _ hm hm2).mono ?_
        rintro e w1 ⟨rfl, hb1⟩
        obtain ⟨x0, x1, x2, y0, y1, y2⟩ := (show Row3 W q _ _ _ from HI.out.2.2.2.2.2).below hb1
        have HI1 := Lib.hid (inv_put HI.out hb1 (X + X))
        clear c0 c1 c2 e0 e1 e2 d0 d1 d2 g0 g1 g2
        go_wp2_with fail
        go_step3
        exact Or.inl ⟨rfl, ⟨p, q, j, _, _, _, _, _, _, _, _, _, _, _, _, _, _, _, _, _, _, _, _, _, _, _, _, _, _, by omega, rfl, (by rw [← HX.out]; exact HI1.out)⟩, (by simp [intOf])⟩
      · have hbb : (bits BinOp.and IntKind.i64 (part / 2 ^ j) 1 == 0) = false := by rw [hand]; exact beq_eq_false_iff_ne.2 hbit
        have HX : Hid (a * (part / 2 ^ (j + 1)) + a * (part / 2 ^ (j + 1)) + a = a * (part / 2 ^ j)) := by
          have e : part / 2 ^ j = part / 2 ^ (j + 1) + part / 2 ^ (j + 1) + 1 := by omega
          show _ = _
          rw [e, Int.mul_add, Int.mul_add, Int.mul_one]
        clear hand hhalf hbit hb01
        generalize a * (part / 2 ^ (j + 1)) = X at d0 d1 d2 HX HI
        go_wp2_with fail
        refine (splus_x X X m _ hm hm2).mono ?_
        rintro e w1 ⟨rfl, hb1⟩
        obtain ⟨x0, x1, x2, y0, y1, y2⟩ := (show Row3 W q _ _ _ from HI.out.2.2.2.2.2).below hb1
        have HI1 := Lib.hid (inv_put HI.out hb1 (X + X))
        clear c0 c1 c2 e0 e1 e2 d0 d1 d2 g0 g1 g2
        go_upto_region 7 with fail
        obtain ⟨W2, hW2⟩ : ∃ W2, W2 = ((w1.setCell ⟨q, 0, none⟩ (.int .u64 (hiW ((X + X) / m)))).setCell ⟨q, 1, none⟩ (.int .u64 (loW ((X + X) / m)))).setCell ⟨q, 2, none⟩ (.int .u64 ((X + X) % m)) := ⟨_, rfl⟩
        rw [← hW2] at HI1
        rw [← hW2]
        clear hW2 x0 x1 x2 y0 y1 y2 hb1 HI hB hN
        obtain ⟨c0, c1, c2, e0, e1, e2⟩ := (show Row3 W2 p _ _ _ from HI1.out.2.2.2.2.1)
        obtain ⟨d0, d1, d2, g0, g1, g2⟩ := (show Row3 W2 q _ _ _ from HI1.out.2.2.2.2.2)
        go_wp2_with fail
        refine (splus_x (X + X) a m _ hm hm2).mono ?_
        rintro e w3 ⟨rfl, hb3⟩
        obtain ⟨x0, x1, x2, y0, y1, y2⟩ := (show Row3 W2 q _ _ _ from HI1.out.2.2.2.2.2).below hb3
        have HI2 := Lib.hid (inv_put HI1.out hb3 (X + X + a))
        clear c0 c1 c2 e0 e1 e2 d0 d1 d2 g0 g1 g2
        go_wp2_with fail
        go_step3
        exact Or.inl ⟨rfl, ⟨p, q, j, _, _, _, _, _, _, _, _, _, _, _, _, _, _, _, _, _, _, _, _, _, _, _, _, _, _, by omega, rfl, (by rw [← HX.out]; exact HI2.out)⟩, (by simp [intOf])⟩
  case out =>
    rintro A W ⟨p, q, u10, u11, u12, u13, u14, u15, u16, u17, u18, u19, u20, u21, u22, u23, u24, u25, u26, u27, u28, u29, u30, u31, u32, u33, u34, u35, rfl, hB, hNp, hpq, hN, hP, hQ⟩
    unfold RowSh Row3 at hQ
    obtain ⟨c0, c1, c2, e0, e1, e2⟩ := hN
    obtain ⟨d0, d1, d2, g0, g1, g2⟩ := hQ
    clear hP
    go_wp2_with fail
    simp only [jump2]
    exact bodyPost_ret (v := .agg #[.int .u64 (hiW (a * part / m)), .int .u64 (loW (a * part / m)), .int .u64 (a * part % m)]) (by simp [results, Tryz.results96, go_sem, c0, c1, c2]) rfl
      ⟨rfl, ((hB.setCell (Nat.le_refl _) _).setCell (Nat.le_refl _) _).setCell (Nat.le_refl _) _⟩
  case first =>
    intro henter
    have HE := Lib.hid henter
    clear henter
    go_wp2_with fail
    refine (once_x a m _ a1 a2 hm hm2).mono ?_
    rintro e w1 ⟨rfl, hb1⟩
    have HN := Lib.hid ((Row3.new w (.int .u64 0) (.int .u64 0) (.int .u64 0) 162).below hb1)
    have HB := Lib.hid (((Below.refl w.heap.size w).alloc (Nat.le_refl _) (.cells #[.int .u64 0, .int .u64 0, .int .u64 0] 162)).trans (hb1.mono (by simp)))
    clear hb1
    go_wp2_with fail
    refine (len64_any part _ p1 (by omega)).mono ?_
    rintro e w2 ⟨k, hk, hlt, rfl, rfl⟩
    have HX : Hid (a * (part / 2 ^ k) = 0) := by
      show _ = _
      rw [Int.ediv_eq_zero_of_lt p1 hlt, Int.mul_zero]
    clear hlt
    go_wp2_with fail
    go_step3
    rename_i hcont
    refine hcont _ _ ?_
    refine HE.out _ _ ?_
    exact ⟨_, _, k, _, _, _, _, _, _, _, _, _, _, _, _, _, _, _, _, _, _, _, _, _, _, _, _, _, _, hk, rfl, inv_start HB.out HN.out HX.out⟩
end Go.Proofs.YtklaonoekmhakaaGreat

namespace Go.Proofs.YtklaonoekmhakaaGreat
open Go.RowKit

theorem mul_bd {a p : Int} (a1 : -9223372036854775808 ≤ a) (a2 : a ≤ 9223372036854775807) (p1 : 0 ≤ p) (p2 : p ≤ 9223372036854775807) :
    -85070591730234615865843651857942052864 ≤ a * p ∧ a * p ≤ 85070591730234615865843651857942052864 := by
  constructor
  · have h1 : -9223372036854775808 * p ≤ a * p := Int.mul_le_mul_of_nonneg_right a1 p1
    omega
  · have h1 : a * p ≤ 9223372036854775807 * p := Int.mul_le_mul_of_nonneg_right a2 p1
    omega
theorem part_ok {a p m : Int} (a1 : -9223372036854775808 ≤ a) (a2 : a ≤ 9223372036854775807) (p1 : 0 ≤ p) (p2 : p ≤ 9223372036854775807) (hm : 1 ≤ m) : wideOk (a * p / m) := by
  have h := mul_bd a1 a2 p1 p2
  have d := div_bd (x := a * p) (B := 85070591730234615865843651857942052864) hm (by omega) h.1 h.2
  unfold wideOk; omega

theorem field0 (x y z : Value) (w : World) : (Instr.field 162 (.agg #[x, y, z]) 0).run Tryz.prog w = .ok (.agg #[x, y]) w := by kernel_rfl
theorem field1 (x y z : Int) (w : World) : (Instr.field 162 (.agg #[.int .u64 x, .int .u64 y, .int .u64 z]) 1).run Tryz.prog w = .ok (.int .u64 z) w := by kernel_rfl

set_option maxHeartbeats 400000 in
theorem part_any (a part m : Int) (w : World) (a1 : -9223372036854775808 ≤ a) (a2 : a ≤ 9223372036854775807) (p1 : 0 ≤ part) (p2 : part ≤ 9223372036854775807) (hm : 1 ≤ m) (hm2 : m ≤ 9223372036854775807) :
    Calls Tryz.prog 58 #[.int .i64 a, .int .i64 part, .int .i64 m] w fun e w' => e = .returned (.tuple #[.int .i64 (tellV (a * part / m)), .int .i64 (tellE (a * part / m))]) ∧ Below w.heap.size w w' := by
  have HO := Lib.hid (part_ok a1 a2 p1 p2 hm)
  have hf := field0 (.int .u64 (hiW (a * part / m))) (.int .u64 (loW (a * part / m))) (.int .u64 (a * part % m))
  have d1 : decide (m < 1) = false := by simp; omega
  have d2 : decide (part < 0) = false := by simp; omega
  go_enter Tryz.func58, Tryz.ntmps58
  go_wp2_with fail
  refine (times_any a part m _ a1 a2 p1 p2 hm hm2).mono ?_
  rintro e w1 ⟨rfl, hb1⟩
  go_wp2_with fail
  refine (narrow_any (a * part / m) _ HO.out).mono ?_
  rintro e w2 ⟨rfl, hb2⟩
  go_wp2_with fail
  go_ret2
  have s1 := hb1.size
  exact ⟨rfl, hb1.trans (hb2.mono (by omega))⟩

theorem wrap_i {n : Int} (h0 : -9223372036854775808 ≤ n) (h1 : n < 9223372036854775808) : IntKind.i64.wrap n = n := by
  rw [wrap_sgn, sgn]; omega

set_option maxHeartbeats 400000 in
theorem rest_any (a part m : Int) (w : World) (a1 : -9223372036854775808 ≤ a) (a2 : a ≤ 9223372036854775807) (p1 : 0 ≤ part) (p2 : part ≤ 9223372036854775807) (hm : 1 ≤ m) (hm2 : m ≤ 9223372036854775807) :
    Calls Tryz.prog 59 #[.int .i64 a, .int .i64 part, .int .i64 m] w fun e w' => e = .returned (.tuple #[.int .i64 (a * part % m), .int .i64 0]) ∧ Below w.heap.size w w' := by
  have hf := field1 (hiW (a * part / m)) (loW (a * part / m)) (a * part % m)
  have bx := Int.emod_nonneg (a * part) (b := m) (by omega)
  have cx := Int.emod_lt_of_pos (a * part) (b := m) (by omega)
  have hw := wrap_i (n := a * part % m) (by omega) (by omega)
  have d1 : decide (m < 1) = false := by simp; omega
  have d2 : decide (part < 0) = false := by simp; omega
  go_enter Tryz.func59, Tryz.ntmps59
  go_wp2_with fail
  refine (times_any a part m _ a1 a2 p1 p2 hm hm2).mono ?_
  rintro e w1 ⟨rfl, hb1⟩
  go_wp2_with fail
  go_ret2
  exact ⟨rfl, hb1⟩

end Go.Proofs.YtklaonoekmhakaaGreat

namespace Go.Proofs.YtklaonoekmhakaaGreat
open Go.RowKit

/-- the sum of the first ones of a row of numbers -/
def sumTo (f : Nat → Int) : Nat → Int
  | 0 => 0
  | k + 1 => sumTo f k + f k
def Amounts (f : Nat → Int) : Prop := ∀ k, -9223372036854775808 ≤ f k ∧ f k ≤ 9223372036854775807
theorem sum_bd {f : Nat → Int} (hf : Amounts f) (k : Nat) : -9223372036854775808 * (k : Int) ≤ sumTo f k ∧ sumTo f k ≤ 9223372036854775808 * (k : Int) := by
  induction k with
  | zero => simp [sumTo]
  | succ k ih => have h := hf k; simp only [sumTo]; omega
theorem sum_ok {f : Nat → Int} (hf : Amounts f) {k : Nat} (hk : k ≤ 1048576) : wideOk (sumTo f k) := by
  have h := sum_bd hf k; unfold wideOk; omega

/-- two cells in a row that may be written -/
def Row2 (W : World) (p : Nat) (x y : Value) : Prop :=
  W.cell? ⟨p, 0, none⟩ = some x ∧ W.cell? ⟨p, 1, none⟩ = some y ∧ W.frozen? ⟨p, 0, none⟩ = false ∧ W.frozen? ⟨p, 1, none⟩ = false
theorem Row2.lt {W : World} {p : Nat} {x y : Value} (h : Row2 W p x y) : p < W.heap.size := World.block_lt_of_cell? (a := ⟨p, 0, none⟩) _ h.1
theorem Row2.drew {W : World} {p : Nat} {x y : Value} (h : Row2 W p x y) : Row2 W.drew p x y := h
theorem Row2.below {W W' : World} {p : Nat} {x y : Value} (h : Row2 W p x y) (hb : Below W.heap.size W W') : Row2 W' p x y :=
  have l := h.lt
  ⟨kcell hb h.1, kcell hb h.2.1, (hb.frozen (p := ⟨p, 0, none⟩) l).trans h.2.2.1, (hb.frozen (p := ⟨p, 1, none⟩) l).trans h.2.2.2⟩
theorem Row2.put {W : World} {p : Nat} {x y : Value} (h : Row2 W p x y) (x' y' : Value) : Row2 ((W.setCell ⟨p, 0, none⟩ x').setCell ⟨p, 1, none⟩ y') p x' y' := by
  obtain ⟨h0, h1, f0, f1⟩ := h
  unfold Row2; simp [go_sem, h0, h1, f0, f1]
theorem Row2.new (W : World) (x y : Value) (t : Nat) : Row2 (W.alloc (.cells #[x, y] t)) W.heap.size x y := by
  unfold Row2; simp [go_sem]

/-- what holds at the loop's head -/
def SumAt (w : World) (v : Int) (wr : World) : Prop := Below w.heap.size w wr ∧ Row2 wr w.heap.size (.int .u64 (hiW v)) (.int .u64 (loW v))
theorem SumAt.drew {w : World} {v : Int} {wr : World} (h : SumAt w v wr) : SumAt w v wr.drew := ⟨h.1.drew, h.2⟩
theorem SumAt.below {w : World} {v : Int} {wr w1 : World} (h : SumAt w v wr) (hb : Below wr.heap.size wr w1) : SumAt w v w1 :=
  ⟨h.1.trans (hb.mono (by have := h.2.lt; omega)), h.2.below hb⟩
theorem SumAt.put {w : World} {v : Int} {wr : World} (h : SumAt w v wr) (u : Int) : SumAt w u ((wr.setCell ⟨w.heap.size, 0, none⟩ (.int .u64 (hiW u))).setCell ⟨w.heap.size, 1, none⟩ (.int .u64 (loW u))) :=
  ⟨(h.1.setCell (Nat.le_refl _) _).setCell (Nat.le_refl _) _, h.2.put _ _⟩
theorem SumAt.start (w : World) : SumAt w 0 (w.alloc (.cells #[.int .u64 0, .int .u64 0] 104)) := ⟨(Below.refl _ _).alloc (Nat.le_refl _) _, Row2.new _ _ _ _⟩

set_option maxHeartbeats 400000 in
theorem sum_some (f : Nat → Int) (hf : Amounts f) (b off len cap : Nat) (w : World) (hl : len ≤ 1048576) (hc : ∀ k, k < len → w.cell? ⟨b, off + k, none⟩ = some (.int .i64 (f k))) :
    Calls Tryz.prog 27 #[.slice (some ⟨b, off, none⟩) len cap] w fun e w' => e = .returned (.tuple #[.int .i64 (tellV (sumTo f len)), .int .i64 (tellE (sumTo f len))]) ∧ Below w.heap.size w w' := by
  have HC := Lib.hid hc
  have HF := Lib.hid hf
  clear hc hf
  go_enter Tryz.func27, Tryz.ntmps27
  go_wp2_with fail
  go_loopw [6, 9] (fun _ i wr => ∃ k : Nat, k ≤ len ∧ i = .int .i64 k ∧ SumAt w (sumTo f k) wr) (fun _ i _ => len - (intOf i).toNat)
  case atStart => exact ⟨0, Nat.zero_le _, rfl, SumAt.start w⟩
  case round =>
    obtain ⟨k, hk, rfl, hS⟩ := hrel
    have HS := Lib.hid hS
    clear hS
    by_cases hlt : k < len
    · have hcell : wr.cell? ⟨b, off + k, none⟩ = some (.int .i64 (f k)) :=
        (HS.out.1.cell (p := ⟨b, off + k, none⟩) (World.block_lt_of_cell? (a := ⟨b, off + k, none⟩) _ (HC.out k hlt))).trans (HC.out k hlt)
      obtain ⟨f1, f2⟩ := HF.out k
      obtain ⟨c0, c1, e0, e1⟩ := HS.out.2
      go_wp2_with fail
      go_region_with (first | (go_at_call 51; ((with_reducible refine (widen_any (f k) _ f1 f2).mono ?_); rintro e w1 ⟨rfl, hb1⟩; have kS1 := Lib.hid (HS.out.drew.below hb1); obtain ⟨x0, x1, y0, y1⟩ := kS1.out.2)) | (go_at_call 50; ((with_reducible refine (plus_any (sumTo f k) (f k) _).mono ?_); rintro e w2 ⟨rfl, hb2⟩; have kS2 := Lib.hid (kS1.out.below hb2); obtain ⟨z0, z1, t0, t1⟩ := kS2.out.2)))
      all_goals
        go_wp2_with fail
        go_roundw
        case rel => exact ⟨k + 1, by omega, by go_num, kS2.out.put (sumTo f (k + 1))⟩
        case measure => simp [intOf]; omega
    · obtain ⟨c0, c1, e0, e1⟩ := HS.out.2
      have hke : k = len := by omega
      subst hke
      go_wp2_with fail
      refine (narrow_any (sumTo f k) _ (sum_ok HF.out hl)).mono ?_
      rintro e w2 ⟨rfl, hb2⟩
      go_wp2_with fail
      go_ret2
      exact ⟨rfl, HS.out.1.trans (hb2.mono (by have := HS.out.2.lt; omega))⟩

end Go.Proofs.YtklaonoekmhakaaGreat
