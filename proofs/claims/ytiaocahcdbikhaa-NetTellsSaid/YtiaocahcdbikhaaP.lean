/- Plain facts on digits of thousands, the lowest first. -/

namespace Go.Proofs.Ytiaocahcdbikhaa

def lval : List Int → Int
  | [] => 0
  | d :: l => d + 1000 * lval l
def DigOk (l : List Int) : Prop := ∀ d ∈ l, 0 ≤ d ∧ d ≤ 999
def dg (l : List Int) (i : Nat) : Int := l.getD i 0
def vTo (l : List Int) : Nat → Int
  | 0 => 0
  | k + 1 => vTo l k + dg l k * 1000 ^ k
/-- no digit 0 at the end -/
def Top (l : List Int) : Prop := l = [] ∨ dg l (l.length - 1) ≠ 0

theorem getD_lt {l : List Int} {i : Nat} (h : i < l.length) : l.getD i 0 = l[i] := by simp [List.getD_eq_getElem?_getD, h]
theorem getD_ge {l : List Int} {i : Nat} (h : l.length ≤ i) : l.getD i 0 = 0 := by simp [List.getD_eq_getElem?_getD, List.getElem?_eq_none h]
theorem getD_app {l r : List Int} {i : Nat} (h : i < l.length) : (l ++ r).getD i 0 = l.getD i 0 := by simp [List.getD_eq_getElem?_getD, List.getElem?_append_left h]
theorem pow_pos' (k : Nat) : (0 : Int) < 1000 ^ k := Int.pow_pos (by decide)
theorem lval_snoc (l : List Int) (x : Int) : lval (l ++ [x]) = lval l + x * 1000 ^ l.length := by
  induction l with
  | nil => simp [lval]
  | cons d l ih => simp only [List.cons_append, lval, ih, List.length_cons, Int.pow_succ, Int.mul_add]; rw [← Int.add_assoc]; congr 1; rw [Int.mul_comm 1000, Int.mul_assoc]
theorem dg_ok {l : List Int} (h : DigOk l) (i : Nat) : 0 ≤ dg l i ∧ dg l i ≤ 999 := by
  unfold dg
  by_cases hi : i < l.length
  · rw [getD_lt hi]; exact h _ (List.getElem_mem hi)
  · rw [getD_ge (by omega)]; omega
theorem dg_beyond {l : List Int} {i : Nat} (h : l.length ≤ i) : dg l i = 0 := getD_ge h
theorem dg_snoc_lt {l : List Int} {x : Int} {i : Nat} (h : i < l.length) : dg (l ++ [x]) i = dg l i := by
  unfold dg; rw [getD_app h]
theorem dg_take {l : List Int} {i k : Nat} (h : i < k) : dg (l.take k) i = dg l i := by
  unfold dg; simp only [List.getD_eq_getElem?_getD]; rw [List.getElem?_take_of_lt h]
theorem vTo_snoc {l : List Int} {x : Int} {k : Nat} (h : k ≤ l.length) : vTo (l ++ [x]) k = vTo l k := by
  induction k with
  | zero => rfl
  | succ k ih => simp only [vTo]; rw [ih (by omega), dg_snoc_lt (by omega)]
theorem vTo_len (l : List Int) : vTo l l.length = lval l := by
  suffices h : ∀ (m : Nat) (l : List Int), l.length = m → vTo l l.length = lval l from h _ l rfl
  intro m
  induction m with
  | zero => intro l hl; rw [List.eq_nil_of_length_eq_zero hl]; rfl
  | succ m ih =>
    intro l hl
    have hne : l ≠ [] := by intro h; rw [h] at hl; simp at hl
    obtain ⟨l', x, rfl⟩ : ∃ l' x, l = l' ++ [x] := ⟨l.dropLast, l.getLast hne, (List.dropLast_concat_getLast hne).symm⟩
    have hl' : l'.length = m := by simpa using hl
    rw [lval_snoc, List.length_append, List.length_singleton]
    simp only [vTo]
    rw [vTo_snoc (Nat.le_refl _), ih l' hl']
    congr 2
    unfold dg; simp
theorem vTo_beyond (l : List Int) {k : Nat} (h : l.length ≤ k) : vTo l k = lval l := by
  induction k with
  | zero => have : l = [] := List.eq_nil_of_length_eq_zero (by omega); rw [this]; rfl
  | succ k ih =>
    by_cases hk : l.length ≤ k
    · simp only [vTo]; rw [ih hk, dg_beyond hk]; omega
    · have : l.length = k + 1 := by omega
      rw [← this]; exact vTo_len l
theorem vTo_bd {l : List Int} (h : DigOk l) (k : Nat) : 0 ≤ vTo l k ∧ vTo l k < 1000 ^ k := by
  induction k with
  | zero => simp [vTo]
  | succ k ih =>
    have hd := dg_ok h k
    have hp := pow_pos' k
    simp only [vTo, Int.pow_succ]
    have h1 : 0 ≤ dg l k * 1000 ^ k := Int.mul_nonneg hd.1 (by omega)
    have h2 : dg l k * 1000 ^ k ≤ 999 * 1000 ^ k := Int.mul_le_mul_of_nonneg_right hd.2 (by omega)
    omega
theorem lval_bd {l : List Int} (h : DigOk l) : 0 ≤ lval l ∧ lval l < 1000 ^ l.length := by rw [← vTo_len]; exact vTo_bd h _
theorem digOk_snoc {l : List Int} {x : Int} (h : DigOk l) (h0 : 0 ≤ x) (h1 : x ≤ 999) : DigOk (l ++ [x]) := by
  intro d hd
  rw [List.mem_append, List.mem_singleton] at hd
  rcases hd with hd | rfl
  · exact h d hd
  · exact ⟨h0, h1⟩
theorem digOk_take {l : List Int} (h : DigOk l) (k : Nat) : DigOk (l.take k) := fun d hd => h d (List.mem_of_mem_take hd)

/-- what is compared from the end: the first digits that differ tell -/
theorem less_at {a b : List Int} (ha : DigOk a) (hb : DigOk b) (i : Nat) (h : dg a i < dg b i) : vTo a (i + 1) < vTo b (i + 1) := by
  have h1 := vTo_bd ha i; have h2 := vTo_bd hb i; have hp := pow_pos' i
  simp only [vTo]
  have h3 : (dg a i + 1) * 1000 ^ i ≤ dg b i * 1000 ^ i := Int.mul_le_mul_of_nonneg_right (by omega) (by omega)
  rw [Int.add_mul, Int.one_mul] at h3
  omega
theorem above {a b : List Int} {i n : Nat} (hin : i ≤ n) (h : ∀ j, i ≤ j → dg a j = dg b j) : vTo a n - vTo a i = vTo b n - vTo b i := by
  induction n with
  | zero => have : i = 0 := by omega
            rw [this]; omega
  | succ n ih =>
    by_cases hn : i ≤ n
    · simp only [vTo]; rw [h n hn]; have := ih hn; omega
    · have : i = n + 1 := by omega
      rw [this]; omega
theorem least_lt {a b : List Int} (ha : DigOk a) (hb : DigOk b) {i : Nat} (h : ∀ j, i + 1 ≤ j → dg a j = dg b j) (hlt : dg a i < dg b i) : lval a < lval b := by
  have h1 := less_at ha hb i hlt
  have e1 := vTo_beyond a (k := a.length + b.length + i + 1) (by omega)
  have e2 := vTo_beyond b (k := a.length + b.length + i + 1) (by omega)
  have h2 := above (a := a) (b := b) (i := i + 1) (n := a.length + b.length + i + 1) (by omega) h
  omega
theorem least_eq {a b : List Int} (h : ∀ j, dg a j = dg b j) : lval a = lval b := by
  have e1 := vTo_beyond a (k := a.length + b.length) (by omega)
  have e2 := vTo_beyond b (k := a.length + b.length) (by omega)
  have h2 := above (a := a) (b := b) (i := 0) (n := a.length + b.length) (by omega) (fun j _ => h j)
  simp only [vTo] at h2
  omega

/-- taking a 0 off the end -/
theorem lval_take_zero {l : List Int} {k : Nat} (hk : k + 1 ≤ l.length) (h : dg l k = 0) : lval (l.take (k + 1)) = lval (l.take k) := by
  have e : l.take (k + 1) = l.take k ++ [l[k]] := List.take_succ_eq_append_getElem (by omega)
  have e2 : l[k] = 0 := by unfold dg at h; rw [getD_lt (by omega)] at h; exact h
  rw [e, lval_snoc, e2]; omega
theorem lval_top {l : List Int} (h : DigOk l) (ht : Top l) (hne : l ≠ []) : (1000 : Int) ^ (l.length - 1) ≤ lval l := by
  rcases ht with h0 | h0
  · exact (hne h0).elim
  · have hl : 0 < l.length := List.length_pos_iff.2 hne
    rw [← vTo_len]
    obtain ⟨k, hk⟩ : ∃ k, l.length = k + 1 := ⟨l.length - 1, by omega⟩
    rw [hk] at h0 ⊢
    simp only [Nat.add_sub_cancel, vTo] at *
    have h1 := vTo_bd h k; have h2 := dg_ok h k; have hp := pow_pos' k
    have h3 : 1 * 1000 ^ k ≤ dg l k * 1000 ^ k := Int.mul_le_mul_of_nonneg_right (by omega) (by omega)
    omega
theorem len_le {l : List Int} (h : DigOk l) (ht : Top l) {n : Nat} (hn : lval l < 1000 ^ n) : l.length ≤ n := by
  by_cases hne : l = []
  · rw [hne]; simp
  · have h1 := lval_top h ht hne
    have h2 : (1000 : Int) ^ (l.length - 1) < 1000 ^ n := by omega
    have h3 : l.length - 1 < n := by
      by_cases hc : l.length - 1 < n
      · exact hc
      · have h4 : (1000 : Int) ^ n ≤ 1000 ^ (l.length - 1) := by
          obtain ⟨d, hd⟩ : ∃ d, l.length - 1 = n + d := ⟨l.length - 1 - n, by omega⟩
          rw [hd, Int.pow_add]
          have := pow_pos' n; have := pow_pos' d
          have h5 : (1000 : Int) ^ n * 1 ≤ 1000 ^ n * 1000 ^ d := Int.mul_le_mul_of_nonneg_left (by omega) (by omega)
          omega
        omega
    omega

theorem carry (n P : Int) : n % 1000 * P + n / 1000 * (P * 1000) = n * P := by
  rw [show n / 1000 * (P * 1000) = (n / 1000 * 1000) * P by rw [Int.mul_comm P, Int.mul_assoc], ← Int.add_mul]
  congr 1; omega
/-- one step of a sum, and its end -/
theorem plus_step {a b out : List Int} {i : Nat} {over : Int} (hl : out.length = i) (h : lval out + over * 1000 ^ i = vTo a i + vTo b i) :
    lval (out ++ [(dg a i + dg b i + over) % 1000]) + (dg a i + dg b i + over) / 1000 * 1000 ^ (i + 1) = vTo a (i + 1) + vTo b (i + 1) := by
  rw [lval_snoc, hl]
  have c := carry (dg a i + dg b i + over) (1000 ^ i)
  simp only [vTo, Int.pow_succ]
  rw [Int.add_mul, Int.add_mul] at c
  omega
theorem plus_end {a b out : List Int} {i : Nat} {over : Int} (ha : DigOk a) (hb : DigOk b) (ho : DigOk out) (h0 : 0 ≤ over) (hla : a.length ≤ i) (hlb : b.length ≤ i)
    (h : lval out + over * 1000 ^ (i + 1) = vTo a (i + 1) + vTo b (i + 1)) : lval out = lval a + lval b := by
  have e1 := vTo_beyond a (k := i + 1) (by omega)
  have e2 := vTo_beyond b (k := i + 1) (by omega)
  have b1 := vTo_bd ha i; have b2 := vTo_bd hb i
  rw [vTo_beyond a hla] at b1; rw [vTo_beyond b hlb] at b2
  have b3 := (lval_bd ho).1
  have hp := pow_pos' i
  rw [e1, e2, Int.pow_succ] at h
  have hz : over = 0 := by
    by_cases hc : over = 0
    · exact hc
    · have h3 : 1 * (1000 ^ i * 1000) ≤ over * (1000 ^ i * 1000) := Int.mul_le_mul_of_nonneg_right (by omega) (by omega)
      omega
  rw [hz] at h; omega
/-- one step of a difference, and its end -/
theorem less_step {a b out : List Int} {i : Nat} {borrow : Int} (hl : out.length = i) (h : lval out = vTo a i - vTo b i + borrow * 1000 ^ i) :
    lval (out ++ [(1000 + dg a i - dg b i - borrow) % 1000]) = vTo a (i + 1) - vTo b (i + 1) + (1 - (1000 + dg a i - dg b i - borrow) / 1000) * 1000 ^ (i + 1) := by
  rw [lval_snoc, hl]
  have c := carry (1000 + dg a i - dg b i - borrow) (1000 ^ i)
  simp only [vTo, Int.pow_succ]
  rw [Int.sub_mul, Int.sub_mul, Int.add_mul] at c
  rw [Int.sub_mul]
  omega
theorem less_end {a b out : List Int} {borrow : Int} (ha : DigOk a) (hb : DigOk b) (ho : DigOk out) (h0 : 0 ≤ borrow) (hl : out.length = a.length) (hle : lval b ≤ lval a)
    (h : lval out = vTo a a.length - vTo b a.length + borrow * 1000 ^ a.length) : lval out = lval a - lval b := by
  rw [vTo_len] at h
  have hvb : vTo b a.length = lval b := by
    have h1 := (lval_bd ha).2
    by_cases hc : b.length ≤ a.length
    · exact vTo_beyond b hc
    · -- digits beyond a's length would make b greater
      have hmono : ∀ n, vTo b n ≤ vTo b (n + 1) := fun n => by
        have := (dg_ok hb n).1; have := pow_pos' n
        simp only [vTo]; have : 0 ≤ dg b n * 1000 ^ n := Int.mul_nonneg (by omega) (by omega)
        omega
      have key : ∀ d, a.length + d ≤ b.length → vTo b (a.length + d) = vTo b a.length ∨ (1000 : Int) ^ a.length ≤ vTo b (a.length + d) := by
        intro d
        induction d with
        | zero => intro _; exact .inl rfl
        | succ d ih =>
          intro hd
          have hm := hmono (a.length + d)
          rcases ih (by omega) with e | e
          · by_cases hz : dg b (a.length + d) = 0
            · left; show vTo b (a.length + d + 1) = _; simp only [vTo]; rw [hz, e]; omega
            · right
              have h2 := dg_ok hb (a.length + d)
              have h3 := vTo_bd hb (a.length + d)
              have hp := pow_pos' a.length; have hq := pow_pos' d
              show _ ≤ vTo b (a.length + d + 1)
              simp only [vTo]
              have h4 : 1 * 1000 ^ (a.length + d) ≤ dg b (a.length + d) * 1000 ^ (a.length + d) := Int.mul_le_mul_of_nonneg_right (by omega) (by rw [Int.pow_add]; exact Int.mul_nonneg (by omega) (by omega))
              have h5 : (1000 : Int) ^ a.length * 1 ≤ 1000 ^ (a.length + d) := by
                rw [Int.pow_add]; exact Int.mul_le_mul_of_nonneg_left (by omega) (by omega)
              omega
          · right; show _ ≤ vTo b (a.length + d + 1); omega
      have hk := key (b.length - a.length) (by omega)
      rw [show a.length + (b.length - a.length) = b.length by omega, vTo_len] at hk
      rcases hk with e | e
      · exact e.symm
      · omega
  rw [hvb] at h
  have b3 := lval_bd ho
  rw [hl] at b3
  have hp := pow_pos' a.length
  have hz : borrow = 0 := by
    by_cases hc : borrow = 0
    · exact hc
    · have h3 : 1 * 1000 ^ a.length ≤ borrow * 1000 ^ a.length := Int.mul_le_mul_of_nonneg_right (by omega) (by omega)
      omega
  rw [hz] at h; omega
end Go.Proofs.Ytiaocahcdbikhaa
