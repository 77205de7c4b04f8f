/- Concat; Discount. -/
import Derived.Test.YtbcdfkcgcaifjaaAlA
import Derived.Test.YtbcdfkcgcaifjaaOv
import Derived.Test.YtbcdfkcgcaifjaaBk
import Derived.Test.YtbcdfkcgcaifjaaRoOut
namespace Go.Proofs.Ytbcdfkcgcaifjaa
open Go.RowKit

def joinV (h : Nat → Int) (k : Nat) (f : Nat → Int) (t : Nat) : Int := if t < k then h t else f (t - k)
theorem valsTo_congr {h g : Nat → Int} {k : Nat} (e : ∀ t, t < k → h t = g t) : valsTo h k = valsTo g k := by
  unfold valsTo
  exact List.map_congr_left fun t ht => by rw [e t (List.mem_range.1 ht)]
theorem valsTo_join (h : Nat → Int) (k : Nat) (f : Nat → Int) (n : Nat) : valsTo h k ++ valsTo f n = valsTo (joinV h k f) (k + n) := by
  induction n with
  | zero => rw [Nat.add_zero, valsTo_congr (h := joinV h k f) (g := h) fun t ht => by unfold joinV; rw [if_pos ht]]; simp [valsTo]
  | succ n ih =>
    rw [valsTo_step, ← List.append_assoc, ih, ← Nat.add_assoc, valsTo_step]
    congr 3
    unfold joinV; rw [if_neg (by omega), show k + n - k = n by omega]
theorem sumN_join (h : Nat → Int) (k : Nat) (f : Nat → Int) (n : Nat) : sumN (joinV h k f) (k + n) = sumN h k + sumN f n := by
  induction n with
  | zero => rw [Nat.add_zero, sumN_congr (g := h) fun t ht => by unfold joinV; rw [if_pos ht]]; simp [sumN]
  | succ n ih =>
    rw [← Nat.add_assoc]
    show sumN (joinV h k f) (k + n) + joinV h k f (k + n) = sumN h k + (sumN f n + f n)
    rw [ih]
    unfold joinV
    rw [if_neg (by omega), show k + n - k = n by omega]; omega
theorem valsTo_len (h : Nat → Int) (k : Nat) : (valsTo h k).length = k := by simp [valsTo]
theorem valsTo_one (h : Nat → Int) (k : Nat) : ∀ u ∈ valsTo h k, u.oneCell' = true := fun u hu => by
  obtain ⟨t, _, rfl⟩ := List.mem_map.1 hu; rfl
/-- a row behind a row of the call's own -/
theorem vals_app {W : World} {B : Nat} {v : Value} {k : Nat} {h : Nat → Int} (o : W.ownsRow B 2 1 v k (valsTo h k)) (hk : k ≤ 2000) (hB : B ≤ W.heap.size) {a : Option Addr} {n : Nat} (cap : Nat) {f : Nat → Int} (hA : Arg W a n f) (hn : n ≤ 1000) (ty : TypeId) :
    ∃ v' w', (Builtin.append_ #[22, 22] ty #[v, .slice a n cap]).run Try.prog W = .ok v' w' ∧ w'.ownsRow B 2 1 v' (k + n) (valsTo (joinV h k f) (k + n)) ∧ W.grownBy w' v.ownBlock := by
  obtain ⟨i, hi, hz0, hz1, hz2⟩ := info_parts infoI64p
  cases a with
  | none =>
    have hn0 : n = 0 := by
      apply Classical.byContradiction; intro q
      obtain ⟨b, off, e, _⟩ := hA (by omega)
      cases e
    subst hn0
    refine ⟨v, W, ?_, ?_, ⟨rfl, rfl, rfl, Nat.le_refl _, fun _ _ _ => rfl⟩⟩
    · obtain ⟨_, ⟨rfl, _⟩ | ⟨g, c, cur, rfl, _⟩⟩ := o
      · simp [Builtin.append_, run_underlying Try.underlying22, sizeOf, typeInfo, hi, Builtin.lenOf, Builtin.firstCells]
      · rename_i h4
        simp [Builtin.append_, run_underlying Try.underlying22, sizeOf, typeInfo, hi, Builtin.lenOf, Builtin.firstCells, loadCells, storeCells, Nat.not_lt.2 h4.2.2.1]
    · rw [← valsTo_join]; simpa [valsTo] using o
  | some ad =>
    obtain ⟨v', w', hr, ho, hg, _⟩ := run_append_own (P := Try.prog) W B 22 ty 2 i _ 1 8 Try.underlying22 hi hz0 hz1 hz2 rfl (by decide) v k _ o ad n cap (valsTo f n) (by rw [valsTo_len, Nat.mul_one])
      (fun j u hj => by
        have hjn : j < n := by have := (List.getElem?_eq_some_iff.1 hj).1; rwa [valsTo_len] at this
        obtain ⟨b, off, e, hr⟩ := hA (by omega)
        injection e with e
        subst e
        rw [valsTo_get f hjn] at hj
        rw [addr_off, hr j hjn]; exact hj)
      (valsTo_one f n) (by unfold maxLen; omega) (by omega) hB
    exact ⟨v', w', hr, by rw [← valsTo_join]; exact ho, hg⟩

def GrowPost (w : World) (e : Ending) (w' : World) : Prop := ∃ v, e = .returned v ∧ Below w.heap.size w w' ∧ w'.ownsRow w.heap.size 2 1 v 0 (valsTo (fun _ => 0) 0)
theorem zero_cells (k : Nat) : (Builtin.zeroCells (Value.int .i64 0).cells k).size = k := by
  rw [size_zeroCells]; simp [Value.cells]
set_option maxRecDepth 100000 in
set_option maxHeartbeats 1000000 in
theorem grow_any (k : Nat) (w : World) (h0 : 0 < k) (hk : k ≤ 3000) : Calls Try.prog 45 #[.slice none 0 0, .int .i64 (k : Int)] w (GrowPost w) := by
  obtain ⟨i, hi, hz0, hz1, hz2⟩ := info_parts infoI64p
  have hr := Lib.run_append_nil_zeros (P := Try.prog) w 22 3 22 2 i _ .i64 .i64 Try.underlying22 Try.underlying3 hi hz0 k h0 (by rw [hz1]; decide) (by omega) (by rw [hz2]; omega)
  obtain ⟨C, hC⟩ : ∃ C, C = grownCap w k 0 2 := ⟨_, rfl⟩
  have hC1 : k ≤ C := by rw [hC]; exact grownCap_ge _ _ _ _
  have hC2 : C ≤ maxLen := by rw [hC]; exact grownCap_le_maxLen _ _ _ _ (by unfold maxLen; omega)
  rw [← hC] at hr
  obtain ⟨W1, hW1⟩ : ∃ W1, W1 = w.drew.alloc (.cells (Builtin.zeroCells (Value.int .i64 0).cells k ++ Builtin.zeroCells (Value.int .i64 0).cells (C - k)) 2) := ⟨_, rfl⟩
  rw [← hW1] at hr
  have hb : Below w.heap.size w W1 := by rw [hW1]; exact (Below.refl _ _).drew.alloc (Nat.le_refl _) _
  have ho : W1.ownsRow w.heap.size 2 1 (.slice (some ⟨w.heap.size, 0, none⟩) 0 C) 0 (valsTo (fun _ => 0) 0) := by
    refine ⟨rfl, .inr ⟨w.heap.size, C, _, rfl, Nat.le_refl _, by rw [hW1]; exact heap_alloc_new w.drew _, Nat.zero_le _, hC2, ?_, rfl⟩⟩
    rw [Array.size_append, zero_cells, zero_cells]; omega
  have HR := Lib.hid hr
  have HX := Lib.hid (And.intro hb ho)
  have hkz : ((k : Int) > 0) := by omega
  have hkC : 0 ≤ C := Nat.zero_le _
  clear hr hb ho hC hW1 hC2
  go_enter Try.func45, Try.ntmps45
  go_wp2_with (first | (at_builtin; refine Lib.wpList_append_run (o := ⟨some 22, _, _, _, _, _⟩) _ rfl (.tmp 20) (.tmp 21) 22 3 rfl _ _ rfl rfl _ _ HR.out ?_) | fail)
  go_ret
  exact ⟨_, rfl, HX.out.1, HX.out.2⟩

def szV (n m : Nat) : Nat → Nat
  | 0 => 0
  | 1 => n
  | _ => n + m
def catV (f : Nat → Int) (n : Nat) (g : Nat → Int) : Nat → Nat → Int
  | 0 => fun _ => 0
  | 1 => f
  | _ => joinV f n g
def CatPost (w : World) (n m : Nat) (h : Nat → Int) (e : Ending) (w' : World) : Prop := ∃ p c, e = .returned (.slice (some ⟨p, 0, none⟩) (n + m) c) ∧ Below w.heap.size w w' ∧ Ints w' p (n + m) h
/-- the row so far, of the call's own -/
structure Cat (w : World) (n m : Nat) (f g : Nat → Int) (B k : Nat) (v : Value) (W : World) : Prop where
  bel : Below w.heap.size w W
  own : W.ownsRow B 2 1 v (szV n m k) (valsTo (catV f n g k) (szV n m k))
  b0 : w.heap.size ≤ B
  bs : B ≤ W.heap.size
theorem Cat.next {w W W' : World} {n m : Nat} {f g : Nat → Int} {B k k' : Nat} {v v' : Value} (h : Cat w n m f g B k v W) (o : W'.ownsRow B 2 1 v' (szV n m k') (valsTo (catV f n g k') (szV n m k'))) (hg : W.grownBy W' v.ownBlock) : Cat w n m f g B k' v' W' :=
  ⟨h.bel.grown hg h.bel.size (fun j hj => by have := (World.ownsRow.lt h.own j hj).1; have := h.b0; omega), o, h.b0, Nat.le_trans h.bs hg.size⟩
set_option maxRecDepth 100000 in
set_option maxHeartbeats 4000000 in
theorem concat_any (f g : Nat → Int) (a c : Option Addr) (n m capa capc q : Nat) (w : World) (hA : Arg w a n f) (hC : Arg w c m g) (h0 : w.cell? ⟨q, 0, none⟩ = some (.slice a n capa)) (h1 : w.cell? ⟨q, 1, none⟩ = some (.slice c m capc)) (hn : n ≤ 1000) (hm : 0 < m) (hm2 : m ≤ 1000) :
    Calls Try.prog 30 #[.slice (some ⟨q, 0, none⟩) 2 2] w (CatPost w n m (joinV f n g)) := by
  have HA := Lib.hid (And.intro hA hC)
  have HQ := Lib.hid (And.intro h0 h1)
  clear hA hC h0 h1
  go_enter Try.func30, Try.ntmps30
  go_wp2_with fail
  go_loop [3, 11] (fun vs vi => ∃ k : Nat, k ≤ 2 ∧ vi = .int .i64 k ∧ vs = .int .i64 ((szV n m k : Nat) : Int)) (fun _ vi => 2 - (intOf vi).toNat)
  case atStart => exact ⟨0, by decide, rfl, rfl⟩
  case round =>
    obtain ⟨k, hk, rfl, rfl⟩ := hrel
    have c0 := HQ.out.1
    have c1 := HQ.out.2
    obtain rfl | rfl | rfl : k = 0 ∨ k = 1 ∨ k = 2 := by omega
    · simp only [szV]
      go_wp2_with fail
      go_round
      case rel => exact ⟨1, by decide, rfl, by show _ = Value.int .i64 ((n : Nat) : Int); go_num⟩
      case measure => simp [intOf]
    · simp only [szV]
      go_wp2_with fail
      go_round
      case rel => exact ⟨2, by decide, rfl, by show _ = Value.int .i64 ((n + m : Nat) : Int); go_num⟩
      case measure => simp [intOf]
    · simp only [szV]
      clear c0 c1
      go_wp2_with fail
      refine (grow_any (n + m) _ (by omega) (by omega)).mono ?_
      rintro e w1 ⟨v, rfl, hb, ho⟩
      have HC : Hid (Cat w n m f g w.heap.size 0 v w1) := ⟨hb, ho, Nat.le_refl _, hb.size⟩
      obtain ⟨B, hB⟩ : ∃ B, B = w.heap.size := ⟨_, rfl⟩
      rw [← hB] at HC
      clear hb ho hB hk
      go_wp2_with fail
      go_loopw [6, 27] (fun vs vi wr => ∃ k : Nat, k ≤ 2 ∧ vi = .int .i64 k ∧ Cat w n m f g B k vs wr) (fun _ vi _ => 2 - (intOf vi).toNat)
      case atStart => exact ⟨0, by decide, rfl, HC.out⟩
      case round =>
        clear HC
        obtain ⟨k, hk, rfl, hC⟩ := hrel
        have c0 := kcell hC.bel HQ.out.1
        have c1 := kcell hC.bel HQ.out.2
        have HC := Lib.hid hC
        clear hC
        obtain rfl | rfl | rfl : k = 0 ∨ k = 1 ∨ k = 2 := by omega
        · obtain ⟨v', w', hr, ho, hg⟩ := vals_app HC.out.own (by simp [szV]) HC.out.bs capa (HA.out.1.up13 HC.out.bel) hn 22
          have HN : Hid (Cat w n m f g B 1 v' w') := by
            refine HC.out.next ?_ hg
            have e : valsTo (joinV (catV f n g 0) (szV n m 0) f) (szV n m 0 + n) = valsTo (catV f n g 1) (szV n m 1) := by
              show valsTo (joinV _ 0 f) (0 + n) = valsTo f n
              rw [Nat.zero_add]
              exact valsTo_congr fun t _ => by unfold joinV; rw [if_neg (by omega), Nat.sub_zero]
            rw [e, show szV n m 0 + n = szV n m 1 by simp [szV]] at ho
            exact ho
          have HR := Lib.hid hr
          clear hr ho hg
          go_wp2_with (first | (at_builtin; refine wpList_run (o := ⟨some 33, _, _, _, _, _⟩) rfl (.tmp 31) (.tmp 32) 22 rfl _ _ rfl rfl (S := fun u q => u = v' ∧ q = w') ⟨v', w', HR.out, rfl, rfl⟩ ?_; rintro u q ⟨rfl, rfl⟩) | fail)
          go_roundw
          case rel => exact ⟨1, by decide, rfl, HN.out⟩
          case measure => simp [intOf]
        · obtain ⟨v', w', hr, ho, hg⟩ := vals_app HC.out.own (by simp only [szV]; omega) HC.out.bs capc (HA.out.2.up13 HC.out.bel) hm2 22
          have HN : Hid (Cat w n m f g B 2 v' w') := HC.out.next ho hg
          have HR := Lib.hid hr
          clear hr ho hg
          go_wp2_with (first | (at_builtin; refine wpList_run (o := ⟨some 33, _, _, _, _, _⟩) rfl (.tmp 31) (.tmp 32) 22 rfl _ _ rfl rfl (S := fun u q => u = v' ∧ q = w') ⟨v', w', HR.out, rfl, rfl⟩ ?_; rintro u q ⟨rfl, rfl⟩) | fail)
          go_roundw
          case rel => exact ⟨2, by decide, rfl, HN.out⟩
          case measure => simp [intOf]
        · obtain ⟨p, cp, e1, _, hi⟩ := vals_ints (show 0 < szV n m 2 by simp only [szV]; omega) HC.out.own
          subst e1
          have HI := Lib.hid hi
          clear hi c0 c1
          simp only [szV]
          go_wp2_with fail
          go_ret
          exact ⟨p, cp, rfl, HC.out.bel, HI.out⟩

theorem not_xor (b : Nat) (hb : b < 2 ^ 64) : (2 ^ 64 - 1) ^^^ b = 2 ^ 64 - 1 - b := by
  apply Nat.eq_of_testBit_eq
  intro i
  rw [Nat.testBit_xor, Nat.testBit_two_pow_sub_one, show 2 ^ 64 - 1 - b = 2 ^ 64 - (b + 1) by omega, Nat.testBit_two_pow_sub_succ hb]
  by_cases hi : i < 64
  · simp [hi]
  · have : b.testBit i = false := Nat.testBit_lt_two_pow (Nat.lt_of_lt_of_le hb (Nat.pow_le_pow_right (by decide) (by omega)))
    simp [hi, this]
/-- '^x' -/
theorem not_i64 {x : Int} (h : Am x) : bits .xor .i64 (-1) x = -x - 1 := by
  unfold Am at h
  show IntKind.i64.wrap ((BitVec.ofInt 64 (-1) ^^^ BitVec.ofInt 64 x).toNat : Int) = _
  have h1 : (BitVec.ofInt 64 (-1)).toNat = 2 ^ 64 - 1 := by decide
  have h2 : (BitVec.ofInt 64 x).toNat = (x % 18446744073709551616).toNat := by rw [BitVec.toNat_ofInt]; rfl
  rw [BitVec.toNat_xor, h1, h2, not_xor _ (by omega), IntKind.wrap_i64]
  omega
def one1 (x : Int) (t : Nat) : Int := if t = 0 then x else 1
set_option maxRecDepth 100000 in
set_option maxHeartbeats 4000000 in
theorem disc_any (price : Int) (f : Nat → Int) (a : Option Addr) (n cap : Nat) (w : World) (hf : Amounts f) (ht : Am price) (hn : n ≤ 900) (hA : Arg w a n f) :
    Calls Try.prog 12 #[.int .i64 price, .slice a n cap] w fun e w' => e = .returned (.tuple #[.int .i64 (tellV (sumN f n - price)), .int .i64 (tellE (sumN f n - price))]) ∧ Below w.heap.size w w' := by
  have hg : Amounts (one1 (-price - 1)) := fun t => by unfold one1 Am at *; split <;> omega
  have hj : Amounts (joinV f n (one1 (-price - 1))) := fun t => by unfold joinV; split <;> first | exact hf _ | exact hg _
  have hsum : sumN (joinV f n (one1 (-price - 1))) (n + 2) = sumN f n - price := by
    rw [sumN_join]; simp [sumN, one1]; omega
  have HS := Lib.hid (fun (W : World) (p c : Nat) (q : Ints W p (n + 2) (joinV f n (one1 (-price - 1)))) => sum_arg (joinV f n (one1 (-price - 1))) (some ⟨p, 0, none⟩) (n + 2) c W hj (by omega) (ints_arg0 q))
  rw [hsum] at HS
  have HA := Lib.hid hA
  obtain ⟨V, hV⟩ : ∃ V, V = tellV (sumN f n - price) := ⟨_, rfl⟩
  obtain ⟨E, hE⟩ : ∃ E, E = tellE (sumN f n - price) := ⟨_, rfl⟩
  rw [← hV, ← hE] at HS
  rw [← hV, ← hE]
  clear hV hE
  clear hg hj hsum hA hf
  have hx := not_i64 ht
  clear ht
  go_enter Try.func12, Try.ntmps12
  go_wp2_with fail
  obtain ⟨X, hX⟩ : ∃ X, X = -price - 1 := ⟨_, rfl⟩
  rw [← hX] at HS ⊢
  have h1 := Has.fresh w 2 #[.int .i64 X, .int .i64 1]
  have h2 := Has.fresh (w.alloc (.cells #[.int .i64 X, .int .i64 1] 2)) 22 #[.slice a n cap, .slice (some ⟨w.heap.size, 0, none⟩) 2 2]
  have h3 := h1.more (.cells #[.slice a n cap, .slice (some ⟨w.heap.size, 0, none⟩) 2 2] 22)
  have hb2 : Below w.heap.size w ((w.alloc (.cells #[.int .i64 X, .int .i64 1] 2)).alloc (.cells #[.slice a n cap, .slice (some ⟨w.heap.size, 0, none⟩) 2 2] 22)) := up2 (boxed _ _) (boxed _ _)
  rw [show (w.alloc (.cells #[.int .i64 X, .int .i64 1] 2)).heap.size = w.heap.size + 1 by simp] at h2
  obtain ⟨W0, hW0⟩ : ∃ W0, W0 = ((w.alloc (.cells #[.int .i64 X, .int .i64 1] 2)).alloc (.cells #[.slice a n cap, .slice (some ⟨w.heap.size, 0, none⟩) 2 2] 22)) := ⟨_, rfl⟩
  rw [← hW0] at h2 h3 hb2 ⊢
  have HB0 := Lib.hid hb2
  have HC := Lib.hid (concat_any f (one1 X) a (some ⟨w.heap.size, 0, none⟩) n 2 cap 2 (w.heap.size + 1) W0 (HA.out.up13 hb2) (fun _ => ⟨w.heap.size, 0, rfl, fun k hk => by
    rw [Nat.zero_add, h3.cell]
    obtain rfl | rfl : k = 0 ∨ k = 1 := by omega
    · rfl
    · rfl⟩) (h2.cell 0) (h2.cell 1) (by omega) (by omega) (by omega))
  clear h1 h2 h3 hb2 hW0 hx hX HA
  refine HC.out.mono ?_
  rintro e w1 ⟨p, c, rfl, hb, hi⟩
  have HB1 := Lib.hid (up2 HB0.out hb)
  have HI := Lib.hid hi
  clear hb hi HC HB0
  go_wp2_with fail
  refine (HS.out w1 p c HI.out).mono ?_
  rintro e w2 ⟨rfl, hb⟩
  have HB2 := Lib.hid (up2 HB1.out hb)
  clear hb HS HI HB1
  go_wp2_with fail
  go_ret2
  exact ⟨rfl, HB2.out⟩
end Go.Proofs.Ytbcdfkcgcaifjaa
