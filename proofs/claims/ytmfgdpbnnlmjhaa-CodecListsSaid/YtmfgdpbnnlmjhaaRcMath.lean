/- The check of bytes, plain: bits divided one by one, by halves of bytes, and the other way round; a byte that is turned turns the check. -/
import GoSem.Core.Ast
namespace Go.Proofs.Ytmfgdpbnnlmjhaa

/-- one bit is divided out -/
def stp (x : Nat) : Nat := (x / 2) ^^^ (if x % 2 = 1 then 3988292384 else 0)
def stp4 (x : Nat) : Nat := stp (stp (stp (stp x)))
def byt (x c : Nat) : Nat := stp4 (stp4 (x ^^^ c))
def crcS (x : Nat) (l : List UInt8) : Nat := l.foldl (fun x c => byt x c.toNat) x
def crc (l : List UInt8) : Nat := 4294967295 - crcS 4294967295 l

theorem stp_lt {x : Nat} (h : x < 4294967296) : stp x < 4294967296 := by
  unfold stp
  refine Nat.xor_lt_two_pow (n := 32) (by omega) ?_
  split <;> decide
theorem stp4_lt {x : Nat} (h : x < 4294967296) : stp4 x < 4294967296 := stp_lt (stp_lt (stp_lt (stp_lt h)))
theorem byt_lt {x c : Nat} (h : x < 4294967296) (hc : c < 256) : byt x c < 4294967296 :=
  stp4_lt (stp4_lt (Nat.xor_lt_two_pow (n := 32) h (by omega)))
theorem crcS_lt (l : List UInt8) : ∀ {x : Nat}, x < 4294967296 → crcS x l < 4294967296 := by
  induction l with
  | nil => exact fun h => h
  | cons c l ih => exact fun h => ih (byt_lt h c.toNat_lt)
theorem crc_lt (l : List UInt8) : crc l < 4294967296 := by unfold crc; omega
theorem crcS_snoc (x : Nat) (l : List UInt8) (c : UInt8) : crcS x (l ++ [c]) = byt (crcS x l) c.toNat := by simp [crcS]
theorem crcS_append (x : Nat) (l m : List UInt8) : crcS x (l ++ m) = crcS (crcS x l) m := by simp [crcS]

theorem xor_half (x y : Nat) : (x ^^^ y) / 2 = (x / 2) ^^^ (y / 2) := by
  apply Nat.eq_of_testBit_eq
  intro i
  simp [Nat.testBit_div_two]
theorem xor_odd (x y : Nat) : (x ^^^ y) % 2 = (x % 2 + y % 2) % 2 := by
  have := Nat.testBit_xor (x := x) (y := y) (i := 0)
  simp only [Nat.testBit_zero] at this
  have a : x % 2 = 0 ∨ x % 2 = 1 := by omega
  have b : y % 2 = 0 ∨ y % 2 = 1 := by omega
  have c : (x ^^^ y) % 2 = 0 ∨ (x ^^^ y) % 2 = 1 := by omega
  rcases a with a | a <;> rcases b with b | b <;> rcases c with c | c <;> simp [a, b, c] at this ⊢
theorem stp_xor (x y : Nat) : stp (x ^^^ y) = stp x ^^^ stp y := by
  unfold stp
  rw [xor_half, xor_odd]
  have a : x % 2 = 0 ∨ x % 2 = 1 := by omega
  have b : y % 2 = 0 ∨ y % 2 = 1 := by omega
  apply Nat.eq_of_testBit_eq
  intro i
  rcases a with a | a <;> rcases b with b | b <;> simp [a, b] <;> (try rw [Bool.xor_assoc]) <;> (try cases (x / 2).testBit i <;> cases (y / 2).testBit i <;> cases Nat.testBit 3988292384 i <;> rfl)
theorem stp_even (x : Nat) : stp (2 * x) = x := by
  unfold stp
  rw [if_neg (by omega), Nat.mul_div_cancel_left _ (by omega), Nat.xor_zero]
theorem split16 (x : Nat) : x = (16 * (x / 16)) ^^^ (x % 16) := by
  apply Nat.eq_of_testBit_eq
  intro i
  rw [Nat.testBit_xor, show (16 : Nat) = 2 ^ 4 by rfl, Nat.testBit_mod_two_pow, Nat.testBit_two_pow_mul, Nat.testBit_div_two_pow]
  by_cases h : i < 4
  · simp [h, Nat.not_le.mpr h]
  · have h' : 4 ≤ i := by omega
    simp [h, h', Nat.sub_add_cancel h']
/-- half a byte is divided out at once -/
theorem stp4_half (x : Nat) : stp4 x = (x / 16) ^^^ stp4 (x % 16) := by
  have h : ∀ a r, stp4 (16 * a ^^^ r) = a ^^^ stp4 r := by
    intro a r
    unfold stp4
    rw [show 16 * a = 2 * (2 * (2 * (2 * a))) by omega, stp_xor, stp_even, stp_xor, stp_even, stp_xor, stp_even, stp_xor, stp_even]
  have := h (x / 16) (x % 16)
  rwa [← split16 x] at this

theorem xor_left {x c d : Nat} (h : x ^^^ c = x ^^^ d) : c = d := by
  have := congrArg (x ^^^ ·) h
  simpa [← Nat.xor_assoc] using this
theorem xor_right {x y c : Nat} (h : x ^^^ c = y ^^^ c) : x = y := by
  rw [Nat.xor_comm x, Nat.xor_comm y] at h
  exact xor_left h
theorem xor_ones32 (b : Nat) (hb : b < 4294967296) : 4294967295 ^^^ b = 4294967295 - b := by
  apply Nat.eq_of_testBit_eq
  intro i
  rw [Nat.testBit_xor, show (4294967295 : Nat) = 2 ^ 32 - 1 by rfl, Nat.testBit_two_pow_sub_one, show 2 ^ 32 - 1 - b = 2 ^ 32 - (b + 1) by omega, Nat.testBit_two_pow_sub_succ hb]
  by_cases hi : i < 32
  · simp [hi]
  · have : b.testBit i = false := Nat.testBit_lt_two_pow (Nat.lt_of_lt_of_le hb (Nat.pow_le_pow_right (n := 2) (by omega) (show 32 ≤ i by omega)))
    simp [hi, this]
/-- no two states become one -/
theorem stp_inj {x y : Nat} (hx : x < 4294967296) (hy : y < 4294967296) (h : stp x = stp y) : x = y := by
  have top : ∀ z, z < 4294967296 → (stp z).testBit 31 = decide (z % 2 = 1) := by
    intro z hz
    have e : (z / 2).testBit 31 = false := Nat.testBit_lt_two_pow (by omega)
    unfold stp
    rw [Nat.testBit_xor, e]
    by_cases q : z % 2 = 1
    · rw [if_pos q, decide_eq_true q]; decide
    · rw [if_neg q, decide_eq_false q]; decide
  have e := (top x hx).symm.trans ((congrArg (·.testBit 31) h).trans (top y hy))
  have q : x % 2 = y % 2 := by
    have a : x % 2 = 0 ∨ x % 2 = 1 := by omega
    have b : y % 2 = 0 ∨ y % 2 = 1 := by omega
    rcases a with a | a <;> rcases b with b | b <;> simp [a, b] at e ⊢
  have d : x / 2 = y / 2 := by
    unfold stp at h
    rw [q] at h
    exact xor_right h
  omega
theorem stp4_inj {x y : Nat} (hx : x < 4294967296) (hy : y < 4294967296) (h : stp4 x = stp4 y) : x = y :=
  stp_inj hx hy (stp_inj (stp_lt hx) (stp_lt hy) (stp_inj (stp_lt (stp_lt hx)) (stp_lt (stp_lt hy)) (stp_inj (stp_lt (stp_lt (stp_lt hx))) (stp_lt (stp_lt (stp_lt hy))) h)))
theorem byt_inj {x y c d : Nat} (hx : x < 4294967296) (hy : y < 4294967296) (hc : c < 256) (hd : d < 256) (h : byt x c = byt y d) : x ^^^ c = y ^^^ d := by
  have a := Nat.xor_lt_two_pow (n := 32) hx (show c < 2 ^ 32 by omega)
  have b := Nat.xor_lt_two_pow (n := 32) hy (show d < 2 ^ 32 by omega)
  exact stp4_inj a b (stp4_inj (stp4_lt a) (stp4_lt b) h)
theorem crcS_inj (l : List UInt8) : ∀ {x y : Nat}, x < 4294967296 → y < 4294967296 → crcS x l = crcS y l → x = y := by
  induction l with
  | nil => exact fun _ _ h => h
  | cons c l ih =>
    intro x y hx hy h
    have e := ih (byt_lt hx c.toNat_lt) (byt_lt hy c.toNat_lt) h
    exact xor_right (byt_inj hx hy c.toNat_lt c.toNat_lt e)
/-- a byte that is turned turns the check -/
theorem crc_turned (l m : List UInt8) (c d : UInt8) (h : crc (l ++ c :: m) = crc (l ++ d :: m)) : c = d := by
  unfold crc at h
  have ha := crcS_lt (l ++ c :: m) (x := 4294967295) (by omega)
  have hb := crcS_lt (l ++ d :: m) (x := 4294967295) (by omega)
  have h' : crcS 4294967295 (l ++ c :: m) = crcS 4294967295 (l ++ d :: m) := by omega
  rw [crcS_append, crcS_append] at h'
  have hl := crcS_lt l (x := 4294967295) (by omega)
  have e := crcS_inj m (byt_lt hl c.toNat_lt) (byt_lt hl d.toNat_lt) h'
  exact UInt8.toNat_inj.mp (xor_left (byt_inj hl hl c.toNat_lt d.toNat_lt e))

/-- a number's bits, so many, the other way round, behind those that are out -/
def tn : Nat → Nat → Nat → Nat
  | 0, _, out => out
  | k + 1, n, out => tn k (n / 2) (2 * out + n % 2)
theorem tn_bit (k : Nat) : ∀ (n out i : Nat), (tn k n out).testBit i = if i < k then n.testBit (k - 1 - i) else out.testBit (i - k) := by
  induction k with
  | zero => intro n out i; simp [tn]
  | succ k ih =>
    intro n out i
    rw [tn, ih]
    by_cases h : i < k
    · rw [if_pos h, if_pos (by omega), Nat.testBit_div_two]
      congr 1; omega
    · rw [if_neg h]
      by_cases h2 : i = k
      · subst h2
        rw [if_pos (by omega), Nat.sub_self, show i + 1 - 1 - i = 0 by omega, Nat.testBit_zero, Nat.testBit_zero]
        congr 1; simp
      · rw [if_neg (by omega), show i - k = (i - (k + 1)) + 1 by omega, Nat.testBit_succ]
        congr 1; omega
def tn32 (n : Nat) : Nat := tn 32 n 0
def tn8 (n : Nat) : Nat := tn 8 n 0
theorem tn32_bit (n i : Nat) : (tn32 n).testBit i = (decide (i < 32) && n.testBit (31 - i)) := by
  unfold tn32
  rw [tn_bit]
  by_cases h : i < 32 <;> simp [h]
theorem tn8_bit (n i : Nat) : (tn8 n).testBit i = (decide (i < 8) && n.testBit (7 - i)) := by
  unfold tn8
  rw [tn_bit]
  by_cases h : i < 8 <;> simp [h]
theorem tn32_lt (n : Nat) : tn32 n < 4294967296 := by
  refine Nat.lt_pow_two_of_testBit (n := 32) _ fun i hi => ?_
  rw [tn32_bit, decide_eq_false (by omega)]; rfl
theorem tn8_lt (n : Nat) : tn8 n < 256 := by
  refine Nat.lt_pow_two_of_testBit (n := 8) _ fun i hi => ?_
  rw [tn8_bit, decide_eq_false (by omega)]; rfl
theorem tn32_xor (x y : Nat) : tn32 (x ^^^ y) = tn32 x ^^^ tn32 y := by
  apply Nat.eq_of_testBit_eq
  intro i
  simp only [Nat.testBit_xor, tn32_bit]
  cases decide (i < 32) <;> simp
theorem bits32 {n : Nat} (h : n < 4294967296) {i : Nat} (hi : 32 ≤ i) : n.testBit i = false :=
  Nat.testBit_lt_two_pow (Nat.lt_of_lt_of_le h (Nat.pow_le_pow_right (n := 2) (by omega) hi))
theorem tn32_two {n : Nat} (h : n < 4294967296) : tn32 (tn32 n) = n := by
  apply Nat.eq_of_testBit_eq
  intro i
  rw [tn32_bit, tn32_bit]
  by_cases q : i < 32
  · rw [show 31 - (31 - i) = i by omega, decide_eq_true q, decide_eq_true (show 31 - i < 32 by omega)]; rfl
  · rw [bits32 h (i := i) (by omega), decide_eq_false q]; rfl
theorem tn_byte {c : Nat} (h : c < 256) : tn32 (tn8 c * 16777216) = c := by
  apply Nat.eq_of_testBit_eq
  intro i
  have hb : ∀ j, 8 ≤ j → c.testBit j = false := fun j hj => Nat.testBit_lt_two_pow (Nat.lt_of_lt_of_le h (Nat.pow_le_pow_right (n := 2) (by omega) hj))
  rw [tn32_bit, Nat.mul_comm, show (16777216 : Nat) = 2 ^ 24 by rfl, Nat.testBit_two_pow_mul, tn8_bit]
  by_cases q : i < 8
  · rw [show 7 - (31 - i - 24) = i by omega, decide_eq_true (show i < 32 by omega), decide_eq_true (show 31 - i ≥ 24 by omega), decide_eq_true (show 31 - i - 24 < 8 by omega)]
    rfl
  · rw [hb i (by omega), decide_eq_false (show ¬ 31 - i ≥ 24 by omega), Bool.false_and, Bool.and_false]
/-- one bit is divided out, the highest one first -/
def rst (r : Nat) : Nat := if 4294967296 ≤ 2 * r then (2 * r - 4294967296) ^^^ 79764919 else 2 * r
theorem rst_lt {r : Nat} (h : r < 4294967296) : rst r < 4294967296 := by
  unfold rst
  split
  · exact Nat.xor_lt_two_pow (n := 32) (by omega) (by decide)
  · omega
theorem poly_turned : ∀ i : Fin 32, Nat.testBit 3988292384 i.val = Nat.testBit 79764919 (31 - i.val) := by decide
theorem rst_tn {r : Nat} (h : r < 4294967296) : tn32 (rst r) = stp (tn32 r) := by
  apply Nat.eq_of_testBit_eq
  intro i
  have odd : (tn32 r) % 2 = if 2147483648 ≤ r then 1 else 0 := by
    have := tn32_bit r 0
    rw [Nat.testBit_zero, Nat.sub_zero] at this
    have e : r.testBit 31 = decide (2147483648 ≤ r) := by
      rw [Nat.testBit_eq_decide_div_mod_eq]
      congr 1
      simp; omega
    rw [e] at this
    split <;> rename_i q <;> simp [q] at this <;> omega
  have half : (tn32 r / 2).testBit i = (decide (i < 31) && r.testBit (30 - i)) := by
    rw [Nat.testBit_div_two, tn32_bit]
    by_cases q : i < 31
    · rw [show 31 - (i + 1) = 30 - i by omega]; simp [q, show i + 1 < 32 by omega]
    · simp [q]; intro; omega
  unfold stp
  rw [Nat.testBit_xor, half, odd, tn32_bit]
  have dbl : ∀ j, j < 32 → ((2 * r) % 4294967296).testBit j = (decide (1 ≤ j) && r.testBit (j - 1)) := by
    intro j hj
    rw [show (4294967296 : Nat) = 2 ^ 32 by rfl, Nat.testBit_mod_two_pow]
    have := Nat.testBit_two_pow_mul (i := 1) (a := r) (j := j)
    rw [show 2 ^ 1 = 2 by rfl] at this
    rw [this]
    simp [hj]
  by_cases q : i < 32
  · have e1 : decide (1 ≤ 31 - i) = decide (i < 31) := by congr 1; simp; omega
    have e2 : 31 - i - 1 = 30 - i := by omega
    have d := dbl (31 - i) (by omega)
    rw [e1, e2] at d
    unfold rst
    by_cases c : 4294967296 ≤ 2 * r
    · rw [if_pos c, if_pos (show 2147483648 ≤ r by omega), Nat.testBit_xor, show 2 * r - 4294967296 = (2 * r) % 4294967296 by omega, d]
      have := poly_turned ⟨i, q⟩
      simp only at this
      simp [q, this]
    · rw [if_neg c, if_neg (show ¬ 2147483648 ≤ r by omega)]
      rw [show (2 * r) % 4294967296 = 2 * r by omega] at d
      rw [d]
      simp [q]
  · have b : Nat.testBit (if (if 2147483648 ≤ r then 1 else 0) = 1 then 3988292384 else 0) i = false := bits32 (by split <;> decide) (by omega)
    rw [b]
    simp [q, show ¬ i < 31 by omega]
def rst8 (r : Nat) : Nat := rst (rst (rst (rst (rst (rst (rst (rst r)))))))
theorem rst8_tn {r : Nat} (h : r < 4294967296) : tn32 (rst8 r) = stp4 (stp4 (tn32 r)) := by
  have a := rst_lt h
  have b := rst_lt a
  have c := rst_lt b
  have d := rst_lt c
  have e := rst_lt d
  have f := rst_lt e
  have g := rst_lt f
  unfold rst8 stp4
  rw [rst_tn g, rst_tn f, rst_tn e, rst_tn d, rst_tn c, rst_tn b, rst_tn a, rst_tn h]
theorem rst8_lt {r : Nat} (h : r < 4294967296) : rst8 r < 4294967296 := rst_lt (rst_lt (rst_lt (rst_lt (rst_lt (rst_lt (rst_lt (rst_lt h)))))))
/-- the document's state is the other way round -/
theorem rbyt_tn {r c : Nat} (h : r < 4294967296) (hc : c < 256) : tn32 (rst8 (r ^^^ (tn8 c * 16777216))) = byt (tn32 r) c := by
  have l : tn8 c * 16777216 < 4294967296 := by have := tn8_lt c; omega
  rw [rst8_tn (Nat.xor_lt_two_pow (n := 32) h l), tn32_xor, tn_byte hc]
  rfl
end Go.Proofs.Ytmfgdpbnnlmjhaa
