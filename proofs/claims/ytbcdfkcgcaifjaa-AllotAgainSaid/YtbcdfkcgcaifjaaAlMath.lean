/- Allotments, plainly: by all, of some, again; what follows. -/
import Derived.Test.YtbcdfkcgcaifjaaPoNear
namespace Go.Proofs.Ytbcdfkcgcaifjaa
open Go.RowKit

theorem tellE_or (v : Int) : (tellE v = 0 ∧ tellV v = v ∧ Am v) ∨ (tellE v = 3 ∧ tellV v = 0 ∧ ¬ Am v) := by
  unfold tellE tellV Am
  by_cases h : -9223372036854775808 ≤ v ∧ v ≤ 9223372036854775807
  · left; rw [if_pos h, if_pos h]; exact ⟨rfl, rfl, h⟩
  · right; rw [if_neg h, if_neg h]; exact ⟨rfl, rfl, h⟩
theorem tellE_am {v : Int} (h : Am v) : tellE v = 0 ∧ tellV v = v := by
  rcases tellE_or v with q | q
  · exact ⟨q.1, q.2.1⟩
  · exact absurd h q.2.2
theorem tellV_am (v : Int) : Am (tellV v) := by
  rcases tellE_or v with q | q
  · rw [q.2.1]; exact q.2.2
  · rw [q.2.1]; unfold Am; omega

/-- what is left of a total -/
def leaveE (total : Int) (g : Nat → Int) (n : Nat) : Int := if tellE (sumN g n) = 0 then tellE (total - sumN g n) else 3
def leaveV (total : Int) (g : Nat → Int) (n : Nat) : Int := if tellE (sumN g n) = 0 then tellV (total - sumN g n) else 0
theorem leave_am (total : Int) (g : Nat → Int) (n : Nat) : Am (leaveV total g n) := by
  unfold leaveV; split
  · exact tellV_am _
  · unfold Am; omega
theorem leave_ok {total : Int} {g : Nat → Int} {n : Nat} (h : leaveE total g n = 0) : Am (sumN g n) ∧ leaveV total g n = total - sumN g n := by
  unfold leaveE at h; unfold leaveV
  rcases tellE_or (sumN g n) with q | q
  · rw [if_pos q.1] at h ⊢
    rcases tellE_or (total - sumN g n) with r | r
    · exact ⟨q.2.2, r.2.1⟩
    · omega
  · rw [if_neg (by omega)] at h; omega
theorem leave_err {total : Int} {g : Nat → Int} {n : Nat} (h : leaveE total g n ≠ 0) : leaveE total g n = 3 := by
  unfold leaveE at h ⊢
  by_cases q : tellE (sumN g n) = 0
  · rw [if_pos q] at h ⊢
    rcases tellE_or (total - sumN g n) with r | r
    · exact absurd r.1 h
    · exact r.1
  · rw [if_neg q]

/-- by all -/
def allE (price : Int) (f : Nat → Int) (n : Nat) : Int := if price < 0 then 1 else outE price f n

/-- again -/
def overB (d v : Nat → Int) : Nat → Bool
  | 0 => false
  | k + 1 => overB d v k || decide (tellE (d k + v k) = 3)
theorem overB_no {d v : Nat → Int} {n : Nat} (h : overB d v n = false) {t : Nat} (ht : t < n) : tellE (d t + v t) = 0 ∧ tellV (d t + v t) = d t + v t ∧ Am (d t + v t) := by
  induction n with
  | zero => omega
  | succ n ih =>
    simp only [overB, Bool.or_eq_false_iff, decide_eq_false_iff_not] at h
    by_cases e : t = n
    · subst e
      rcases tellE_or (d t + v t) with q | q
      · exact q
      · exact absurd q.1 h.2
    · exact ih h.1 (by omega)
theorem overB_yes {d v : Nat → Int} {n t : Nat} (ht : t < n) (h : tellE (d t + v t) = 3) : overB d v n = true := by
  induction n with
  | zero => omega
  | succ n ih =>
    simp only [overB, Bool.or_eq_true, decide_eq_true_iff]
    by_cases e : t = n
    · subst e; exact .inr h
    · exact .inl (ih (by omega))
theorem overB_none {d v : Nat → Int} {n : Nat} (h : ∀ t, t < n → tellE (d t + v t) = 0) : overB d v n = false := by
  induction n with
  | zero => rfl
  | succ n ih =>
    simp only [overB, Bool.or_eq_false_iff, decide_eq_false_iff_not]
    have := h n (by omega)
    exact ⟨ih fun t ht => h t (by omega), by omega⟩
def againE (total : Int) (d : Nat → Int) (n : Nat) (f : Nat → Int) (k : Nat) : Int :=
  if n ≠ k then 1 else if leaveE total d n ≠ 0 then 3 else if outE (leaveV total d n) f k ≠ 0 then outE (leaveV total d n) f k else if overB d (outV (leaveV total d n) f k) n then 3 else 0
def againV (total : Int) (d : Nat → Int) (n : Nat) (f : Nat → Int) (k : Nat) (t : Nat) : Int := d t + outV (leaveV total d n) f k t
theorem again_ok {total : Int} {d f : Nat → Int} {n k : Nat} (h : againE total d n f k = 0) : n = k ∧ leaveE total d n = 0 ∧ outE (leaveV total d n) f k = 0 ∧ overB d (outV (leaveV total d n) f k) n = false := by
  unfold againE at h
  by_cases h1 : n ≠ k
  · rw [if_pos h1] at h; omega
  · rw [if_neg h1] at h
    by_cases h2 : leaveE total d n ≠ 0
    · rw [if_pos h2] at h; omega
    · rw [if_neg h2] at h
      by_cases h3 : outE (leaveV total d n) f k ≠ 0
      · rw [if_pos h3] at h; exact absurd h h3
      · rw [if_neg h3] at h
        by_cases h4 : overB d (outV (leaveV total d n) f k) n = true
        · rw [if_pos h4] at h; omega
        · exact ⟨by omega, by omega, by omega, by simpa using h4⟩
theorem again_am {total : Int} {d f : Nat → Int} {n k : Nat} (h : againE total d n f k = 0) {t : Nat} (ht : t < k) : Am (againV total d n f k t) := by
  obtain ⟨e, _, _, h4⟩ := again_ok h
  subst e
  exact (overB_no h4 ht).2.2
/-- together they are the total -/
theorem again_sum {total : Int} {d f : Nat → Int} {n k : Nat} (h : againE total d n f k = 0) (S : Sorts k (restV (if 0 ≤ leaveV total d n then leaveV total d n else -leaveV total d n) f (sumN f k))) : sumN (againV total d n f k) k = total := by
  obtain ⟨e, h2, h3, _⟩ := again_ok h
  subst e
  have := out_sum h3 S
  have e : sumN (againV total d n f n) n = sumN d n + sumN (outV (leaveV total d n) f n) n := by rw [← sumN_add]; rfl
  rw [e, this, (leave_ok h2).2]; omega

/-- places -/
def inB (p : Nat → Int) : Nat → Int → Bool
  | 0, _ => false
  | m + 1, t => inB p m t || (p m == t)
theorem inB_iff {p : Nat → Int} {m : Nat} {t : Int} : inB p m t = true ↔ ∃ i, i < m ∧ p i = t := by
  induction m with
  | zero => simp [inB]
  | succ m ih =>
    simp only [inB, Bool.or_eq_true, ih, beq_iff_eq]
    constructor
    · rintro (⟨i, h1, h2⟩ | h)
      · exact ⟨i, by omega, h2⟩
      · exact ⟨m, by omega, h⟩
    · rintro ⟨i, h1, h2⟩
      by_cases e : i = m
      · subst e; exact .inr h2
      · exact .inl ⟨i, by omega, h2⟩
def befV (p : Nat → Int) : Nat → Int
  | 0 => -1
  | m + 1 => p m
def risesB (p : Nat → Int) (n : Nat) : Nat → Bool
  | 0 => true
  | m + 1 => risesB p n m && !(decide (p m ≤ befV p m) || decide ((n : Int) ≤ p m))
theorem rises_step {p : Nat → Int} {n m : Nat} (h : risesB p n (m + 1) = true) : risesB p n m = true ∧ befV p m < p m ∧ p m < n := by
  simp only [risesB, Bool.and_eq_true, Bool.not_eq_true', Bool.or_eq_false_iff, decide_eq_false_iff_not] at h
  exact ⟨h.1, by omega, by omega⟩
theorem rises_no {p : Nat → Int} {n m k : Nat} (h : risesB p n k = false) (hk : k ≤ m) : risesB p n m = false := by
  induction m with
  | zero => obtain rfl : k = 0 := by omega
            exact h
  | succ m ih =>
    by_cases e : k = m + 1
    · rw [← e]; exact h
    · simp only [risesB, ih (by omega), Bool.false_and]
theorem rises_yes {p : Nat → Int} {n m k : Nat} (h : risesB p n m = true) (hk : k ≤ m) : risesB p n k = true := by
  cases q : risesB p n k with
  | true => rfl
  | false => rw [rises_no q hk] at h; cases h
theorem rises_top {p : Nat → Int} {n m : Nat} (h : risesB p n m = true) : -1 ≤ befV p m ∧ ∀ i, i < m → p i ≤ befV p m := by
  induction m with
  | zero => exact ⟨Int.le_refl _, fun i hi => by omega⟩
  | succ m ih =>
    obtain ⟨h1, h2, _⟩ := rises_step h
    obtain ⟨i1, i2⟩ := ih h1
    refine ⟨by show -1 ≤ p m; omega, fun i hi => ?_⟩
    show p i ≤ p m
    by_cases e : i = m
    · subst e; exact Int.le_refl _
    · have := i2 i (by omega); omega
theorem rises_in {p : Nat → Int} {n m : Nat} (h : risesB p n m = true) {i : Nat} (hi : i < m) : 0 ≤ p i ∧ p i < n := by
  obtain ⟨h1, h2, h3⟩ := rises_step (rises_yes h (show i + 1 ≤ m by omega))
  have := (rises_top h1).1
  omega
theorem rises_lt {p : Nat → Int} {n m : Nat} (h : risesB p n m = true) {i j : Nat} (hij : i < j) (hj : j < m) : p i < p j := by
  obtain ⟨h1, h2, h3⟩ := rises_step (rises_yes h (show j + 1 ≤ m by omega))
  have := (rises_top h1).2 i hij
  omega
theorem rises_not {p : Nat → Int} {n m : Nat} (h : risesB p n m = true) {i : Nat} (hi : i < m) : inB p i (p i) = false := by
  cases q : inB p i (p i) with
  | false => rfl
  | true =>
    obtain ⟨j, j1, j2⟩ := inB_iff.1 q
    have := rises_lt h j1 hi
    omega

/-- what others get: their Alone -/
def othV (f p : Nat → Int) (m : Nat) (t : Nat) : Int := if inB p m (t : Int) then 0 else f t
def putV (g p v : Nat → Int) : Nat → Nat → Int
  | 0, t => g t
  | m + 1, t => if (t : Int) = p m then v m else putV g p v m t
def picV (f p : Nat → Int) (i : Nat) : Int := f (p i).toNat
theorem putV_in {g p v : Nat → Int} {n m : Nat} (h : risesB p n m = true) {i t : Nat} (hi : i < m) (ht : (t : Int) = p i) : putV g p v m t = v i := by
  induction m with
  | zero => omega
  | succ m ih =>
    unfold putV
    by_cases e : i = m
    · subst e; rw [if_pos ht]
    · have := rises_lt h (show i < m by omega) (by omega)
      rw [if_neg (by omega)]; exact ih (rises_step h).1 (by omega)
theorem putV_out {g p v : Nat → Int} {m t : Nat} (h : inB p m (t : Int) = false) : putV g p v m t = g t := by
  induction m with
  | zero => rfl
  | succ m ih =>
    simp only [inB, Bool.or_eq_false_iff, beq_eq_false_iff_ne] at h
    unfold putV
    rw [if_neg (fun q => h.2 q.symm)]; exact ih h.1
theorem putV_or {g p v : Nat → Int} {n m : Nat} (h : risesB p n m = true) (t : Nat) : (∃ i, i < m ∧ p i = (t : Int) ∧ putV g p v m t = v i) ∨ (inB p m (t : Int) = false ∧ putV g p v m t = g t) := by
  cases q : inB p m (t : Int) with
  | false => exact .inr ⟨rfl, putV_out q⟩
  | true =>
    obtain ⟨i, i1, i2⟩ := inB_iff.1 q
    exact .inl ⟨i, i1, i2, putV_in h i1 i2.symm⟩
theorem sumN_put {g p v : Nat → Int} {n m : Nat} (h : risesB p n m = true) (h0 : ∀ i, i < m → g (p i).toNat = 0) : sumN (putV g p v m) n = sumN g n + sumN v m := by
  induction m with
  | zero => show sumN g n = sumN g n + 0; omega
  | succ m ih =>
    obtain ⟨h1, h2, h3⟩ := rises_step h
    have hin := rises_in h (show m < m + 1 by omega)
    have e : sumN (putV g p v (m + 1)) n = sumN (fun t => if t = (p m).toNat then v m else putV g p v m t) n := sumN_congr fun t _ => by
      show (if (t : Int) = p m then v m else putV g p v m t) = _
      by_cases q : (t : Int) = p m
      · rw [if_pos q, if_pos (by omega)]
      · rw [if_neg q, if_neg (by omega)]
    have z : putV g p v m (p m).toNat = 0 := by
      rw [putV_out, h0 m (by omega)]
      have := rises_not h (show m < m + 1 by omega)
      rw [show (((p m).toNat : Nat) : Int) = p m by omega]; exact this
    rw [e, sumN_upd, if_pos (by omega), ih h1 fun i hi => h0 i (by omega), z]
    show _ = sumN g n + (sumN v m + v m)
    omega
theorem oth_zero {f p : Nat → Int} {n m : Nat} (h : risesB p n m = true) {i : Nat} (hi : i < m) : othV f p m (p i).toNat = 0 := by
  have := rises_in h hi
  unfold othV
  rw [if_pos]
  exact inB_iff.2 ⟨i, hi, by omega⟩
theorem put_pic {f p : Nat → Int} {n m : Nat} (h : risesB p n m = true) (t : Nat) : putV (othV f p m) p (picV f p) m t = f t := by
  rcases putV_or (g := othV f p m) (v := picV f p) h t with ⟨i, i1, i2, e⟩ | ⟨q, e⟩
  · rw [e]; unfold picV; rw [i2]; simp
  · rw [e]; unfold othV; rw [q]; simp
theorem sum_parts13 {f p : Nat → Int} {n m : Nat} (h : risesB p n m = true) : sumN f n = sumN (othV f p m) n + sumN (picV f p) m := by
  rw [← sumN_put h (fun i hi => oth_zero h hi)]
  exact sumN_congr fun t _ => (put_pic h t).symm

/-- of some -/
def someE (price : Int) (f : Nat → Int) (n : Nat) (p : Nat → Int) (m : Nat) : Int :=
  if price < 0 ∨ ¬ (0 < m ∧ risesB p n m = true) ∨ minN f n < 0 then 1
  else if leaveE price (othV f p m) n ≠ 0 then 3
  else if leaveV price (othV f p m) n < 0 then 1
  else outE (leaveV price (othV f p m) n) (picV f p) m
def someV (price : Int) (f : Nat → Int) (n : Nat) (p : Nat → Int) (m : Nat) : Nat → Int :=
  putV (othV f p m) p (outV (leaveV price (othV f p m) n) (picV f p) m) m
structure SomeOk (price : Int) (f : Nat → Int) (n : Nat) (p : Nat → Int) (m : Nat) : Prop where
  p0 : 0 ≤ price
  m0 : 0 < m
  rises : risesB p n m = true
  pos : ∀ t, t < n → 0 ≤ f t
  leave : leaveE price (othV f p m) n = 0
  left : 0 ≤ leaveV price (othV f p m) n
  out : outE (leaveV price (othV f p m) n) (picV f p) m = 0
theorem some_ok {price : Int} {f p : Nat → Int} {n m : Nat} (h : someE price f n p m = 0) : SomeOk price f n p m := by
  unfold someE at h
  by_cases h1 : price < 0 ∨ ¬ (0 < m ∧ risesB p n m = true) ∨ minN f n < 0
  · rw [if_pos h1] at h; omega
  · rw [if_neg h1] at h
    by_cases h2 : leaveE price (othV f p m) n ≠ 0
    · rw [if_pos h2] at h; omega
    · rw [if_neg h2] at h
      by_cases h3 : leaveV price (othV f p m) n < 0
      · rw [if_pos h3] at h; omega
      · rw [if_neg h3] at h
        have hm : 0 < m ∧ risesB p n m = true := Classical.byContradiction fun q => h1 (.inr (.inl q))
        exact ⟨by omega, hm.1, hm.2, fun t ht => by have := minN_le f ht; omega, by omega, by omega, h⟩
variable {price : Int} {f p : Nat → Int} {n m : Nat}
/-- together they are the price -/
theorem some_sum (O : SomeOk price f n p m) (S : Sorts m (restV (leaveV price (othV f p m) n) (picV f p) (sumN (picV f p) m))) : sumN (someV price f n p m) n = price := by
  unfold someV
  rw [sumN_put O.rises (fun i hi => oth_zero O.rises hi), out_sum O.out (by rw [if_pos O.left]; exact S), (leave_ok O.leave).2]; omega
/-- none is below 0; each other one gets its Alone -/
theorem some_val (O : SomeOk price f n p m) {t : Nat} (ht : t < n) : 0 ≤ someV price f n p m t ∧ (inB p m (t : Int) = false → someV price f n p m t = f t) := by
  have la := leave_am price (othV f p m) n
  rcases putV_or (g := othV f p m) (v := outV (leaveV price (othV f p m) n) (picV f p) m) O.rises t with ⟨i, i1, i2, e⟩ | ⟨q, e⟩
  · refine ⟨?_, fun q => ?_⟩
    · unfold someV; rw [e]
      exact (out_facts la.1 la.2 O.out i1).1 O.left
    · rw [inB_iff.2 ⟨i, i1, i2⟩] at q; cases q
  · have e2 : someV price f n p m t = f t := by unfold someV; rw [e]; unfold othV; rw [q]; simp
    rw [e2]; exact ⟨O.pos t ht, fun _ => rfl⟩
theorem some_am (O : SomeOk price f n p m) (hf : Amounts f) {t : Nat} : Am (someV price f n p m t) := by
  have la := leave_am price (othV f p m) n
  rcases putV_or (g := othV f p m) (v := outV (leaveV price (othV f p m) n) (picV f p) m) O.rises t with ⟨i, i1, i2, e⟩ | ⟨q, e⟩
  · unfold someV; rw [e]
    exact (out_facts la.1 la.2 O.out i1).2.2.2
  · have e2 : someV price f n p m t = f t := by unfold someV; rw [e]; unfold othV; rw [q]; simp
    rw [e2]; exact hf t

/-- an exact part is the portion -/
theorem out_exact {total : Int} {f : Nat → Int} {n k : Nat} {q : Int} (h : outE total f n = 0) (h0 : 0 ≤ total) (e : total * f k = sumN f n * q) : outV total f n k = q := by
  obtain ⟨_, W, _, _⟩ := outE_ok h
  have s0 : sumN f n ≠ 0 := by have := W.s0; omega
  unfold outV; rw [if_pos h0, W.no_more]
  · unfold partV; rw [e, Int.mul_ediv_cancel_left _ s0]
  · unfold restV; rw [e, Int.mul_emod_right]
theorem outE_to {total total' : Int} {f : Nat → Int} {n : Nat} (h : outE total f n = 0) (h1 : total' ≠ -9223372036854775808) : outE total' f n = 0 := by
  obtain ⟨q1, q2, q3, q4⟩ := outE_ok h
  unfold outE at h ⊢
  rw [if_neg (by omega)] at h ⊢
  by_cases h2 : n = 0 ∨ minN f n < 0 ∨ maxN f n = 0
  · rw [if_pos h2] at h; omega
  · rw [if_neg h2, if_neg (by omega)]
theorem outE_good {total : Int} {f : Nat → Int} {n : Nat} (h0 : 0 < n) (hn : n ≤ 64) (hf : ∀ t, t < n → 1 ≤ f t) (hs : sumN f n ≤ 9223372036854775807) (h1 : total ≠ -9223372036854775808) : outE total f n = 0 := by
  unfold outE
  obtain ⟨k, k1, k2⟩ := minN_is f h0
  obtain ⟨j, j1, j2⟩ := maxN_is f h0
  have := hf k k1
  have := hf j j1
  rw [if_neg (by omega), if_neg (by omega), if_neg (by omega)]
/-- where there is no discount -/
theorem none_all (h : outE (sumN f n) f n = 0) (h0 : 0 ≤ sumN f n) (t : Nat) : outV (sumN f n) f n t = f t := out_exact h h0 rfl
theorem none_some (O : SomeOk (sumN f n) f n p m) (t : Nat) : someV (sumN f n) f n p m t = f t := by
  have e := (leave_ok O.leave).2
  have e2 := sum_parts13 (f := f) O.rises
  have e3 : leaveV (sumN f n) (othV f p m) n = sumN (picV f p) m := by omega
  have l0 := O.left
  have lo := O.out
  unfold someV
  rw [e3] at l0 lo ⊢
  rcases putV_or (g := othV f p m) (v := outV (sumN (picV f p) m) (picV f p) m) O.rises t with ⟨i, i1, i2, q⟩ | ⟨q, q2⟩
  · rw [q, out_exact lo l0 (q := picV f p i) rfl]; unfold picV; rw [i2]; simp
  · rw [q2]; unfold othV; rw [q]; simp
/-- the price again: it stays -/
theorem same_again (h : outE price f n = 0) (hp : Am price) (S : Sorts n (restV (if 0 ≤ price then price else -price) f (sumN f n))) :
    againE price (outV price f n) n f n = 0 ∧ ∀ t, againV price (outV price f n) n f n t = outV price f n t := by
  have hs : sumN (outV price f n) n = price := out_sum h S
  have t1 := tellE_am hp
  have hl : leaveE price (outV price f n) n = 0 := by
    unfold leaveE; rw [hs, if_pos t1.1, (tellE_am (v := price - price) (by unfold Am; omega)).1]
  have hv : leaveV price (outV price f n) n = 0 := by rw [(leave_ok hl).2, hs]; omega
  have ho : outE 0 f n = 0 := outE_to h (by omega)
  have hz : ∀ t, outV 0 f n t = 0 := fun t => out_exact ho (Int.le_refl _) (q := 0) (by simp)
  have hb : overB (outV price f n) (outV 0 f n) n = false := overB_none fun t ht => by
    rw [hz t, Int.add_zero]
    exact (tellE_am (out_facts hp.1 hp.2 h ht).2.2.2).1
  refine ⟨?_, fun t => ?_⟩
  · unfold againE
    rw [if_neg (by omega), if_neg (by omega), hv, if_neg (by omega), hb]; rfl
  · unfold againV; rw [hv, hz t, Int.add_zero]
/-- more of it: each gets no less -/
theorem more_again {total : Int} (h : outE price f n = 0) (S : Sorts n (restV (if 0 ≤ price then price else -price) f (sumN f n))) (hm : price ≤ total) (ha : againE total (outV price f n) n f n = 0) {t : Nat} (ht : t < n) :
    outV price f n t ≤ againV total (outV price f n) n f n t := by
  obtain ⟨_, h2, h3, _⟩ := again_ok ha
  have hs : sumN (outV price f n) n = price := out_sum h S
  have e := (leave_ok h2).2
  have la := leave_am total (outV price f n) n
  have := (out_facts la.1 la.2 h3 ht).1 (by omega)
  unfold againV
  omega
end Go.Proofs.Ytbcdfkcgcaifjaa
