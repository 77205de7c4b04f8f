/- Plain facts on numbers of 128 bits, of two halves of 64 bits. -/
namespace Go.Proofs.Ytobdcogaphkogaa

/-- the upper and the lower half of a whole number's 128 bits -/
def hiW (v : Int) : Int := v / 18446744073709551616 % 18446744073709551616
def loW (v : Int) : Int := v % 18446744073709551616
/-- sum and carry, difference and borrow of 64 bits -/
def lo3 (x y c : Int) : Int := (x + y + c) % 18446744073709551616
def hi3 (x y c : Int) : Int := (x + y + c) / 18446744073709551616
def lo2 (x y c : Int) : Int := (x + 18446744073709551616 - y - c) % 18446744073709551616
def hi2 (x y c : Int) : Int := if x < y + c then 1 else 0
def U (x : Int) : Prop := 0 ≤ x ∧ x < 18446744073709551616

theorem U_hi (v : Int) : U (hiW v) := by unfold U hiW; omega
theorem U_lo (v : Int) : U (loW v) := by unfold U loW; omega
theorem plus_lo (a b : Int) : lo3 (loW a) (loW b) 0 = loW (a + b) := by unfold lo3 loW; omega
theorem plus_hi (a b : Int) : lo3 (hiW a) (hiW b) (hi3 (loW a) (loW b) 0) = hiW (a + b) := by unfold lo3 hi3 loW hiW; omega
theorem less_lo (a b : Int) : lo2 (loW a) (loW b) 0 = loW (a - b) := by unfold lo2 loW; omega
theorem less_hi (a b : Int) : lo2 (hiW a) (hiW b) (hi2 (loW a) (loW b) 0) = hiW (a - b) := by
  unfold lo2 hi2 loW hiW; split <;> omega
theorem hi3_le (x y : Int) (hx : U x) (hy : U y) : 0 ≤ hi3 x y 0 ∧ hi3 x y 0 ≤ 1 := by unfold U at hx hy; unfold hi3; omega
theorem hi2_le (x y : Int) : 0 ≤ hi2 x y 0 ∧ hi2 x y 0 ≤ 1 := by unfold hi2; split <;> omega
theorem U_lo3 (x y c : Int) : U (lo3 x y c) := by unfold U lo3; omega
theorem U_lo2 (x y c : Int) : U (lo2 x y c) := by unfold U lo2; omega
/-- the number of 64 bits that a lower half is -/
def sgn (l : Int) : Int := (l + 9223372036854775808) % 18446744073709551616 - 9223372036854775808
theorem sgn_bd (l : Int) : -9223372036854775808 ≤ sgn l ∧ sgn l ≤ 9223372036854775807 := by unfold sgn; omega
theorem sgn_fit (v : Int) (h1 : -9223372036854775808 ≤ v) (h2 : v ≤ 9223372036854775807) : sgn (loW v) = v := by unfold sgn loW; omega
theorem lo_sgn (v : Int) : loW (sgn (loW v)) = loW v := by unfold sgn loW; omega
theorem hi_sgn (v : Int) (h : v < -9223372036854775808 ∨ 9223372036854775807 < v) (h1 : -170141183460469231731687303715884105728 ≤ v) (h2 : v < 170141183460469231731687303715884105728) :
    hiW (sgn (loW v)) ≠ hiW v := by unfold sgn loW hiW; omega
end Go.Proofs.Ytobdcogaphkogaa
