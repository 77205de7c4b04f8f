/- Plain facts on days, months and years. -/
namespace Go.Proofs.YtmodnkdgkdpacaaDoor

/-- a leap year -/
def leapB (y : Int) : Bool := decide (1 ≤ y ∧ y % 4 = 0 ∧ (y % 100 ≠ 0 ∨ y % 400 = 0))
/-- a month's days in a year that is no leap year -/
def lon (m : Int) : Int := if m = 2 then 28 else if m = 4 ∨ m = 6 ∨ m = 9 ∨ m = 11 then 30 else 31
/-- a month's days, 0 of none -/
def dim (y m : Int) : Int := if y < 1 ∨ m < 1 ∨ 12 < m then 0 else if m = 2 ∧ leapB y = true then 29 else lon m
/-- days ahead of a year -/
def dby (y : Int) : Int := (y - 1) * 365 + (y - 1) / 4 - (y - 1) / 100 + (y - 1) / 400
/-- days of a year ahead of a month -/
def cum (y m : Int) : Int := (367 * m - 362) / 12 - (if m ≤ 2 then 0 else if leapB y = true then 1 else 2)
/-- a date's number -/
def num (y m d : Int) : Int := dby y + cum y m + d
/-- a date that may be -/
def May (y m d : Int) : Prop := 1 ≤ y ∧ y ≤ 2737 ∧ 1 ≤ m ∧ m ≤ 12 ∧ 1 ≤ d ∧ d ≤ dim y m
/-- the date of a number -/
def Isd (n y m d : Int) : Prop := May y m d ∧ num y m d = n

theorem months {m : Int} (h1 : 1 ≤ m) (h2 : m ≤ 12) : m = 1 ∨ m = 2 ∨ m = 3 ∨ m = 4 ∨ m = 5 ∨ m = 6 ∨ m = 7 ∨ m = 8 ∨ m = 9 ∨ m = 10 ∨ m = 11 ∨ m = 12 := by omega

theorem dim_bd (y m : Int) : 0 ≤ dim y m ∧ dim y m ≤ 31 := by
  unfold dim lon; split <;> (try split) <;> (try split) <;> (try split) <;> omega
theorem dim_pos {y m : Int} (h0 : 1 ≤ y) (h1 : 1 ≤ m) (h2 : m ≤ 12) : 28 ≤ dim y m := by
  unfold dim lon; rw [if_neg (by omega)]; split <;> (try split) <;> (try split) <;> omega
theorem dim_none {y m : Int} (h : y < 1 ∨ m < 1 ∨ 12 < m) : dim y m = 0 := by unfold dim; rw [if_pos h]
theorem dim_some {y m : Int} (h0 : 1 ≤ y) (h1 : 1 ≤ m) (h2 : m ≤ 12) (h : ¬ (m = 2 ∧ leapB y = true)) : dim y m = lon m := by
  unfold dim; rw [if_neg (by omega), if_neg h]
theorem dim_leap {y : Int} (h0 : 1 ≤ y) (h : leapB y = true) : dim y 2 = 29 := by
  unfold dim; rw [if_neg (by omega), if_pos ⟨rfl, h⟩]

theorem cum_one (y : Int) : cum y 1 = 0 := by unfold cum; rw [if_pos (by omega)]; omega
theorem cum_next {y m : Int} (h0 : 1 ≤ y) (h1 : 1 ≤ m) (h2 : m ≤ 12) : cum y (m + 1) = cum y m + dim y m := by
  unfold cum dim lon
  cases leapB y <;> rcases months h1 h2 with rfl | rfl | rfl | rfl | rfl | rfl | rfl | rfl | rfl | rfl | rfl | rfl <;> simp <;> omega
theorem dby_next {y : Int} (h0 : 1 ≤ y) : dby (y + 1) = dby y + cum y 13 := by
  unfold dby cum leapB
  rw [if_neg (by omega)]
  by_cases h : 1 ≤ y ∧ y % 4 = 0 ∧ (y % 100 ≠ 0 ∨ y % 400 = 0)
  · rw [if_pos (decide_eq_true h)]; omega
  · rw [if_neg (by rw [decide_eq_true_eq]; exact h)]; omega
theorem dby_step {y : Int} (h0 : 1 ≤ y) : dby (y + 1) = dby y + (if leapB y = true then 366 else 365) := by
  rw [dby_next h0]; unfold cum; rw [if_neg (by omega)]; split <;> omega
theorem dby_mono {a b : Int} (h : a ≤ b) : dby a ≤ dby b := by unfold dby; omega
theorem dby_one : dby 1 = 0 := by decide
theorem dby_all : dby 2738 = 999668 := by decide
theorem dby_bd {y : Int} (h0 : 1 ≤ y) (h1 : y ≤ 2738) : 0 ≤ dby y ∧ dby y ≤ 999668 := by
  have a := dby_mono h0; have b := dby_mono h1; rw [dby_one] at a; rw [dby_all] at b; exact ⟨a, b⟩
theorem cum_mono {y a b : Int} (h0 : 1 ≤ a) (h : a ≤ b) (h1 : b ≤ 13) : cum y a ≤ cum y b := by
  unfold cum; cases leapB y <;> (split <;> (try split) <;> (try split) <;> (try split) <;> simp_all <;> omega)
theorem cum_bd {y a : Int} (h0 : 1 ≤ a) (h1 : a ≤ 13) : 0 ≤ cum y a ∧ cum y a ≤ 366 := by
  unfold cum; split <;> (try split) <;> omega

/-- a row that rises past a number does so somewhere -/
theorem climb (f : Nat → Int) (n : Int) : ∀ N : Nat, f 0 < n → n ≤ f N → ∃ k : Nat, k < N ∧ f k < n ∧ n ≤ f (k + 1)
  | 0, h0, h1 => by omega
  | N + 1, h0, h1 => by
    by_cases h : n ≤ f N
    · obtain ⟨k, a, b, c⟩ := climb f n N h0 h
      exact ⟨k, by omega, b, c⟩
    · exact ⟨N, by omega, by omega, h1⟩

theorem isd_some {n : Int} (h1 : 1 ≤ n) (h2 : n ≤ 999668) : ∃ y m d, Isd n y m d := by
  obtain ⟨k, hk, a, b⟩ := climb (fun k => dby ((k : Int) + 1)) n 2737 (by rw [show ((0 : Nat) : Int) + 1 = 1 by omega, dby_one]; omega) (by rw [show ((2737 : Nat) : Int) + 1 = 2738 by omega, dby_all]; omega)
  simp only [Int.natCast_add, Int.cast_ofNat_Int] at a b
  have b' : n ≤ dby ((k : Int) + 1) + cum ((k : Int) + 1) 13 := by rw [← dby_next (by omega)]; exact b
  obtain ⟨j, hj, c, e⟩ := climb (fun j => cum ((k : Int) + 1) ((j : Int) + 1)) (n - dby ((k : Int) + 1)) 12 (by rw [show ((0 : Nat) : Int) + 1 = 1 by omega, cum_one]; omega) (by rw [show ((12 : Nat) : Int) + 1 = 13 by omega]; omega)
  simp only [Int.natCast_add, Int.cast_ofNat_Int] at c e
  rw [cum_next (by omega) (by omega) (by omega)] at e
  exact ⟨(k : Int) + 1, (j : Int) + 1, n - dby ((k : Int) + 1) - cum ((k : Int) + 1) ((j : Int) + 1), ⟨by omega, by omega, by omega, by omega, by omega, by omega⟩, by unfold num; omega⟩

/-- where a date's number lies -/
theorem isd_year {n y m d : Int} (h : Isd n y m d) : dby y < n ∧ n ≤ dby (y + 1) := by
  obtain ⟨⟨a, b, c, e, f, g⟩, rfl⟩ := h
  have h1 := cum_next (y := y) a c e
  have h2 := cum_mono (y := y) (a := m + 1) (b := 13) (by omega) (by omega) (by omega)
  have h3 := (cum_bd (y := y) (a := m) c (by omega)).1
  rw [dby_next a]
  unfold num; omega
theorem isd_bd {n y m d : Int} (h : Isd n y m d) : 1 ≤ n ∧ n ≤ 999668 := by
  have h1 := isd_year h
  have h2 := dby_bd (y := y) h.1.1 (by have := h.1.2.1; omega)
  have h3 := dby_bd (y := y + 1) (by have := h.1.1; omega) (by have := h.1.2.1; omega)
  omega
theorem isd_month {n y m d : Int} (h : Isd n y m d) : cum y m < n - dby y ∧ n - dby y ≤ cum y (m + 1) := by
  obtain ⟨⟨a, b, c, e, f, g⟩, rfl⟩ := h
  rw [cum_next a c e]; unfold num; omega
theorem isd_one {n y m d y' m' d' : Int} (h : Isd n y m d) (h' : Isd n y' m' d') : y' = y ∧ m' = m ∧ d' = d := by
  have a := isd_year h; have a' := isd_year h'
  have ey : y' = y := by
    by_cases h1 : y' < y
    · have := dby_mono (a := y' + 1) (b := y) (by omega); omega
    · by_cases h2 : y < y'
      · have := dby_mono (a := y + 1) (b := y') (by omega); omega
      · omega
  subst ey
  have b := isd_month h; have b' := isd_month h'
  have e1 := h.1.2.2.1; have e2 := h.1.2.2.2.1; have e3 := h'.1.2.2.1; have e4 := h'.1.2.2.2.1
  have em : m' = m := by
    by_cases h1 : m' < m
    · have := cum_mono (y := y') (a := m' + 1) (b := m) (by omega) (by omega) (by omega); omega
    · by_cases h2 : m < m'
      · have := cum_mono (y := y') (a := m + 1) (b := m') (by omega) (by omega) (by omega); omega
      · omega
  subst em
  have c := h.2; have c' := h'.2
  unfold num at c c'
  exact ⟨rfl, rfl, by omega⟩
theorem isd_of {y m d : Int} (h : May y m d) : Isd (num y m d) y m d := ⟨h, rfl⟩

end Go.Proofs.YtmodnkdgkdpacaaDoor
