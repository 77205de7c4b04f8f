/- The reference's Set. -/
import Derived.Test.YtjmgncjadfhmcaaBqB
import Derived.Test.YtjmgncjadfhmcaaP
namespace Go.Proofs.Ytjmgncjadfhmcaa
open Go.RowKit

theorem infoRPrice : (Try.prog.info? 105).map (fun i => (i.zero, i.size, i.bytes)) = some (some (.agg #[.int .i64 0, .int .i64 0, .int .i64 0]), 3, 24) := by kernel_rfl
/-- what the reference's Set answers, and leaves -/
def QSetR (w : World) (p : Nat) (S : Bs) (i d n : Int) (e : Ending) (w' : World) : Prop := e = .returned (.int .i64 (setE S i d n)) ∧ Rb w' p (setS S i d n) ∧ w.grownBy w' (some p)
section
variable {w : World} {p : Nat} {S : Bs}
theorem qsetR_same {i d n E : Int} {w' : World} (h : Rb w p S) (hE : setE S i d n = E) (h0 : E ≠ 0) (hb : Below w.heap.size w w') : QSetR w p S i d n (.returned (.int .i64 E)) w' := by
  refine ⟨by rw [hE], ?_, grown_of hb _⟩
  unfold setS
  rw [if_neg (by rw [hE]; exact h0)]
  exact h.up hb
theorem Rbx.set {w1 : World} {qa la A : Option Addr} {qc lc C m : Nat} {i d n : Int} (h : Rbx w p S qa qc la lc) (hb : Below w.heap.size w w1) (hm : m = S.L.length) (hE : setE S i d n = 0) (hp : PcA w1 A (S.L ++ [⟨i, d, n⟩])) (hn : A = none → C = 0) :
    Rb (w1.setCell ⟨p, 1, none⟩ (.slice A (m + 1) C)) p (setS S i d n) := by
  have h1 := h.up hb
  have hg := grown_set w1 p 1 (.slice A (m + 1) C)
  have hS : setS S i d n = setted S i d n := by unfold setS; rw [if_pos hE]
  rw [hS]
  refine ⟨qa, qc, A, C, ?_, h1.items.off im_int h1.noInt hg, hp.off pc_int h1.noInt hg, hn⟩
  have h2 := h1.book.put 1 (.slice A (m + 1) C)
  have e : (S.L ++ [(⟨i, d, n⟩ : Pc)]).length = m + 1 := by rw [hm]; simp
  show Has _ p _ #[.slice qa S.I.length qc, .slice A (S.L ++ [(⟨i, d, n⟩ : Pc)]).length C]
  rw [e]; exact h2
/-- both appends -/
theorem qset_apps {la : Option Addr} {lc m : Nat} {L : List Pc} (i d n : Int) (hm : L.length = m) (hmx : m ≤ 1000) (hL : PcA w la L) (hn : la = none → lc = 0) :
    ∃ A1 C1 W2 A2 C2 W3, (Builtin.append_ #[59, 59] 59 #[.slice (some ⟨w.heap.size, 0, none⟩) 0 0, .slice la m lc]).run Try.prog (w.alloc (.cells #[] 105)) = .ok (.slice A1 m C1) W2 ∧
      (Builtin.append_ #[59, 59] 59 #[.slice A1 m C1, .slice (some ⟨W2.heap.size, 0, none⟩) 1 1]).run Try.prog (W2.alloc (.cells #[.int .i64 i, .int .i64 d, .int .i64 n] 105)) = .ok (.slice A2 (m + 1) C2) W3 ∧
      PcA W3 A2 (L ++ [⟨i, d, n⟩]) ∧ (A2 = none → C2 = 0) ∧ Below w.heap.size w W2 ∧ Below w.heap.size w W3 := by
  obtain ⟨t, hi, hz0, hz1, hz2⟩ := info_parts infoRPrice
  obtain ⟨W, hW⟩ : ∃ W, W = w.alloc (.cells #[] 105) := ⟨_, rfl⟩
  have hb : Below w.heap.size w W := by rw [hW]; exact boxed _ _
  have hg : Has W w.heap.size 105 #[] := by rw [hW]; exact Has.fresh _ _ _
  have hown : W.ownsRow w.heap.size 105 3 (.slice (some ⟨w.heap.size, 0, none⟩) 0 0) 0 [] := ⟨rfl, .inr ⟨w.heap.size, 0, #[], rfl, Nat.le_refl _, hg, Nat.le_refl _, by unfold maxLen; omega, rfl, rfl⟩⟩
  have hL1 := hL.up hb
  obtain ⟨A1, C1, W2, hr1, ho1, hb2⟩ : ∃ A1 C1 W2, (Builtin.append_ #[59, 59] 59 #[.slice (some ⟨w.heap.size, 0, none⟩) 0 0, .slice la m lc]).run Try.prog W = .ok (.slice A1 m C1) W2 ∧ W2.ownsRow w.heap.size 105 3 (.slice A1 m C1) m (L.flatMap Pc.cells) ∧ Below w.heap.size w W2 := by
    cases la with
    | none =>
      have hL0 : L = [] := by
        rcases hL with h | ⟨b, o, e, _⟩
        · exact h
        · cases e
      subst hL0
      have hc := hn rfl
      subst hc
      obtain rfl : m = 0 := hm.symm
      refine ⟨_, _, W, ?_, hown, hb⟩
      simp [Builtin.append_, run_underlying Try.underlying59, sizeOf, typeInfo, hi, Builtin.lenOf, Builtin.firstCells, loadCells, loadCellsFrom, storeCells]
    | some ad =>
      obtain ⟨v', w5, hr, ho, hg5, _⟩ := run_append_own (P := Try.prog) W w.heap.size 59 59 105 t _ 3 24 Try.underlying59 hi hz0 hz1 hz2 rfl (by decide) _ 0 [] hown ad m lc (L.flatMap Pc.cells) (by rw [flat_len pc_len, hm])
        (fun j u hj => by
          have hL2 := hL1
          rcases hL1 with h | ⟨b, o, e, _⟩
          · rw [h] at hj; simp at hj
          · obtain rfl : ad = ⟨b, o, none⟩ := Option.some.inj e
            rw [addr_off]; exact hL2.flat pc_len j u hj) (pc_one L) (by unfold maxLen; omega) (by omega) hb.size
      rw [List.nil_append, Nat.zero_add] at ho
      obtain ⟨a', c', rfl⟩ := own_formb ho
      exact ⟨a', c', w5, hr, ho, hb.grown hg5 hb.size (fun j hj => by injection hj with hj; have hj : w.heap.size = j := hj; omega)⟩
  have hy := Has.fresh W2 105 #[.int .i64 i, .int .i64 d, .int .i64 n]
  have ho1' : (W2.alloc (.cells #[.int .i64 i, .int .i64 d, .int .i64 n] 105)).ownsRow w.heap.size 105 3 (.slice A1 m C1) m (L.flatMap Pc.cells) := World.ownsRow.kept ho1 (World.grownBy_alloc W2 _ none) (by cases (Value.slice A1 m C1).ownBlock <;> simp)
  have hb2' : Below w.heap.size w (W2.alloc (.cells #[.int .i64 i, .int .i64 d, .int .i64 n] 105)) := hb2.alloc hb2.size _
  obtain ⟨v2, W3, hr2, ho2, hg2, hnil⟩ := run_append_own (P := Try.prog) (W2.alloc (.cells #[.int .i64 i, .int .i64 d, .int .i64 n] 105)) w.heap.size 59 59 105 t _ 3 24 Try.underlying59 hi hz0 hz1 hz2 rfl (by decide) _ m _ ho1' ⟨W2.heap.size, 0, none⟩ 1 1 (Pc.cells ⟨i, d, n⟩) rfl
    (fun j u hu => by
      rw [addr_off, Nat.zero_add, hy.cell]
      exact (List.getElem?_toArray (xs := Pc.cells ⟨i, d, n⟩) (i := j)).trans hu) (fun u hu => by simp [Pc.cells] at hu; rcases hu with rfl | rfl | rfl <;> rfl) (by unfold maxLen; omega) (by omega) hb2'.size
  obtain ⟨A2, C2, rfl⟩ := own_formb ho2
  have hfl : L.flatMap Pc.cells ++ Pc.cells ⟨i, d, n⟩ = (L ++ [(⟨i, d, n⟩ : Pc)]).flatMap Pc.cells := by simp
  rw [hfl] at ho2
  refine ⟨A1, C1, W2, A2, C2, W3, by rw [← hW]; exact hr1, hr2, (own_rws pc_len ho2 (by simp [hm])).1, fun e => ?_, hb2, hb2'.grown hg2 hb2'.size (fun j hj => (World.ownsRow.lt ho1' j hj).1)⟩
  subst e
  rcases ho2.2 with ⟨e, _⟩ | ⟨g, cp, cur, e, _⟩
  · injection e
  · cases e
end
end Go.Proofs.Ytjmgncjadfhmcaa

namespace Go.Proofs.Ytjmgncjadfhmcaa

theorem dg_set_ne {l : List Int} {j k : Nat} {x : Int} (h : j ≠ k) : dg (l.set j x) k = dg l k := by
  unfold dg; simp only [List.getD_eq_getElem?_getD]; rw [List.getElem?_set_ne h]
theorem dg_set_eq {l : List Int} {j : Nat} {x : Int} (h : j < l.length) : dg (l.set j x) j = x := by
  unfold dg; rw [getD_lt (by simpa using h)]; simp
theorem vTo_set {l : List Int} {j : Nat} {x : Int} (hj : j < l.length) (k : Nat) : vTo (l.set j x) k = vTo l k + (if j < k then (x - dg l j) * 1000 ^ j else 0) := by
  induction k with
  | zero => simp [vTo]
  | succ k ih =>
    simp only [vTo]
    rw [ih]
    by_cases h1 : j = k
    · subst h1
      rw [dg_set_eq hj, if_neg (by omega), if_pos (by omega), Int.sub_mul]; omega
    · rw [dg_set_ne h1]
      by_cases h2 : j < k
      · rw [if_pos h2, if_pos (by omega)]; omega
      · rw [if_neg h2, if_neg (by omega)]; omega
theorem lval_set {l : List Int} {j : Nat} {x : Int} (hj : j < l.length) : lval (l.set j x) = lval l + (x - dg l j) * 1000 ^ j := by
  have h1 := vTo_set (x := x) hj l.length
  rw [vTo_len] at h1
  have h2 := vTo_len (l.set j x)
  rw [List.length_set] at h2
  rw [← h2, h1, if_pos hj]
theorem digOk_set {l : List Int} {j : Nat} {x : Int} (h : DigOk l) (h0 : 0 ≤ x) (h9 : x ≤ 999) : DigOk (l.set j x) := by
  intro d hd
  rcases List.mem_or_eq_of_mem_set hd with hd | rfl
  · exact h d hd
  · exact ⟨h0, h9⟩
/-- a digit takes a number, and hands its thousands on -/
theorem put_carry {l : List Int} {j : Nat} {p t : Int} (hj : j < l.length) (h : lval l + p * 1000 ^ j = t) :
    lval (l.set j ((dg l j + p) % 1000)) + (dg l j + p) / 1000 * 1000 ^ (j + 1) = t := by
  rw [lval_set hj]
  have c := carry (dg l j + p) (1000 ^ j)
  rw [Int.pow_succ, Int.sub_mul]
  rw [Int.add_mul] at c
  omega
/-- a carry ends ahead of the end -/
theorem carry_in {l : List Int} {j m : Nat} {o t : Int} (h : DigOk l) (ho : 1 ≤ o) (ht : t < 1000 ^ m) (he : lval l + o * 1000 ^ j = t) : j < m := by
  have h1 := (lval_bd h).1
  by_cases hc : j < m
  · exact hc
  · obtain ⟨d, rfl⟩ : ∃ d, j = m + d := ⟨j - m, by omega⟩
    have hp := pow_pos' m; have hq := pow_pos' d; have hpq := pow_pos' (m + d)
    have h2 : 1 * 1000 ^ (m + d) ≤ o * 1000 ^ (m + d) := Int.mul_le_mul_of_nonneg_right ho (by omega)
    have h3 : (1000 : Int) ^ m * 1 ≤ 1000 ^ (m + d) := by rw [Int.pow_add]; exact Int.mul_le_mul_of_nonneg_left (by omega) (by omega)
    omega
/-- what the rows and digits gone through so far are -/
def mulTo (a b : List Int) (i k : Nat) : Int := vTo a i * lval b + dg a i * 1000 ^ i * vTo b k
theorem mulTo_step (a b : List Int) (i k : Nat) : mulTo a b i (k + 1) = mulTo a b i k + dg a i * dg b k * 1000 ^ (i + k) := by
  unfold mulTo
  simp only [vTo]
  rw [Int.mul_add, Int.pow_add, ← Int.add_assoc]
  congr 1
  rw [Int.mul_assoc, Int.mul_assoc, ← Int.mul_assoc (1000 ^ i), Int.mul_comm (1000 ^ i) (dg b k), Int.mul_assoc]
theorem mulTo_row (a b : List Int) (i : Nat) : mulTo a b i b.length = mulTo a b (i + 1) 0 := by
  unfold mulTo
  simp only [vTo]
  rw [vTo_len, Int.mul_zero, Int.add_zero, Int.add_mul]
theorem mulTo_end (a b : List Int) : mulTo a b a.length 0 = lval a * lval b := by
  unfold mulTo; rw [vTo_len]; simp [vTo]
theorem mul_bd' {x y X Y : Int} (hx : 0 ≤ x) (hX : x < X) (hy : 0 ≤ y) (hY : y < Y) : x * y < X * Y := by
  have h1 : x * y ≤ x * Y := Int.mul_le_mul_of_nonneg_left (by omega) hx
  have h2 : (x + 1) * Y ≤ X * Y := Int.mul_le_mul_of_nonneg_right (by omega) (by omega)
  rw [Int.add_mul, Int.one_mul] at h2
  omega
theorem mulTo_lt {a b : List Int} (ha : DigOk a) (hb : DigOk b) {i k : Nat} (hi : i < a.length) (hk : k ≤ b.length) : mulTo a b i k < 1000 ^ (a.length + b.length) := by
  have hA : vTo a (i + 1) ≤ lval a := by
    have key : ∀ d, i + 1 + d ≤ a.length → vTo a (i + 1) ≤ vTo a (i + 1 + d) := by
      intro d
      induction d with
      | zero => intro _; exact Int.le_refl _
      | succ d ih =>
        intro hd
        have h1 := ih (by omega)
        have h2 := (dg_ok ha (i + 1 + d)).1; have h3 := pow_pos' (i + 1 + d)
        have h4 : 0 ≤ dg a (i + 1 + d) * 1000 ^ (i + 1 + d) := Int.mul_nonneg h2 (by omega)
        show _ ≤ vTo a (i + 1 + d + 1)
        simp only [vTo] at *; omega
    have := key (a.length - (i + 1)) (by omega)
    rw [show i + 1 + (a.length - (i + 1)) = a.length by omega, vTo_len] at this
    exact this
  have hB : vTo b k ≤ lval b := by
    have key : ∀ d, k + d ≤ b.length → vTo b k ≤ vTo b (k + d) := by
      intro d
      induction d with
      | zero => intro _; exact Int.le_refl _
      | succ d ih =>
        intro hd
        have h1 := ih (by omega)
        have h2 := (dg_ok hb (k + d)).1; have h3 := pow_pos' (k + d)
        have h4 : 0 ≤ dg b (k + d) * 1000 ^ (k + d) := Int.mul_nonneg h2 (by omega)
        show _ ≤ vTo b (k + d + 1)
        simp only [vTo]; omega
    have := key (b.length - k) (by omega)
    rw [show k + (b.length - k) = b.length by omega, vTo_len] at this
    exact this
  have ba := lval_bd ha; have bb := lval_bd hb
  have hd := dg_ok ha i; have hp := pow_pos' i
  have h1 : dg a i * 1000 ^ i * vTo b k ≤ dg a i * 1000 ^ i * lval b := Int.mul_le_mul_of_nonneg_left hB (Int.mul_nonneg hd.1 (by omega))
  have h2 : vTo a (i + 1) * lval b ≤ lval a * lval b := Int.mul_le_mul_of_nonneg_right hA bb.1
  have h3 := mul_bd' ba.1 ba.2 bb.1 bb.2
  rw [Int.pow_add]
  unfold mulTo
  simp only [vTo, Int.add_mul] at h2
  omega
end Go.Proofs.Ytjmgncjadfhmcaa
