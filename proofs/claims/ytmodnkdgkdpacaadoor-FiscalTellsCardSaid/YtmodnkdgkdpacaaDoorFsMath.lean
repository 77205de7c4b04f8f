/- Plain facts on fiscal calendars. -/
import Derived.Test.YtmodnkdgkdpacaaDoorCvMath
namespace Go.Proofs.YtmodnkdgkdpacaaDoor

/-- the number of the first day of the month that is so many months behind the first of all -/
def mnum (k : Int) : Int := num (k / 12 + 1) (k % 12 + 1) 1
/-- days of that month -/
def mdim (k : Int) : Int := dim (k / 12 + 1) (k % 12 + 1)
/-- long years ahead of a year -/
def lgs (q : Int) : Int := 71 * q / 400
/-- days ahead of a period of weeks -/
def wk (p : Int) : Int := p / 12 * 364 + lgs (p / 12) * 7 + p % 12 / 3 * 91 + p % 12 % 3 * 28
/-- days of a period of weeks -/
def wdays (p : Int) : Int := if p % 3 = 2 then (if p % 12 = 11 ∧ lgs (p / 12) < lgs (p / 12 + 1) then 42 else 35) else 28

theorem mnum_next {k : Int} (h : 0 ≤ k) : mnum (k + 1) = mnum k + mdim k := by
  unfold mnum mdim num
  have h1 : 1 ≤ k / 12 + 1 := by omega
  by_cases e : k % 12 = 11
  · rw [show (k + 1) / 12 + 1 = (k / 12 + 1) + 1 by omega, show (k + 1) % 12 + 1 = 1 by omega, cum_one, dby_next h1, e]
    have := cum_next h1 (m := 12) (by omega) (by omega)
    rw [show (12 : Int) + 1 = 13 by omega] at this
    rw [this]; simp; omega
  · rw [show (k + 1) / 12 + 1 = k / 12 + 1 by omega, show (k + 1) % 12 + 1 = (k % 12 + 1) + 1 by omega, cum_next h1 (by omega) (by omega)]
    omega
theorem mdim_bd {k : Int} (h : 0 ≤ k) : 28 ≤ mdim k ∧ mdim k ≤ 31 :=
  ⟨dim_pos (by omega) (by omega) (by omega), (dim_bd _ _).2⟩
theorem mnum_may {k : Int} (h : 0 ≤ k) (h1 : k ≤ 32843) : Isd (mnum k) (k / 12 + 1) (k % 12 + 1) 1 := by
  have := mdim_bd h
  unfold mdim at this
  exact ⟨⟨by omega, by omega, by omega, by omega, by omega, by omega⟩, rfl⟩
theorem mnum_last : mnum 32844 = 999669 := by decide
theorem lgs_next {q : Int} (h : 0 ≤ q) : 0 ≤ lgs q ∧ lgs q ≤ lgs (q + 1) ∧ lgs (q + 1) ≤ lgs q + 1 ∧ lgs q ≤ q := by unfold lgs; omega
theorem wk_next {p : Int} (h : 0 ≤ p) : wk (p + 1) = wk p + wdays p := by
  have hl := lgs_next (q := p / 12) (by omega)
  by_cases e : p % 12 = 11
  · have d : wdays p = 35 + 7 * (lgs (p / 12 + 1) - lgs (p / 12)) := by
      unfold wdays; rw [if_pos (by omega)]; split <;> omega
    rw [d]; unfold wk
    rw [show (p + 1) / 12 = p / 12 + 1 by omega, show (p + 1) % 12 = 0 by omega, e]; omega
  · unfold wk wdays
    rw [show (p + 1) / 12 = p / 12 by omega, show (p + 1) % 12 = p % 12 + 1 by omega]
    split
    · rw [if_neg (by omega)]; omega
    · omega
theorem wdays_bd (p : Int) : 28 ≤ wdays p ∧ wdays p ≤ 42 := by unfold wdays; split <;> (try split) <;> omega
theorem wk_zero : wk 0 = 0 := by decide
theorem wk_bd {p : Int} (h : 0 ≤ p) (h1 : p ≤ 240) : 0 ≤ wk p ∧ wk p ≤ 10000 := by
  have := lgs_next (q := p / 12) (by omega); unfold wk; omega
theorem wk_seven (p : Int) : wk p % 7 = 0 := by unfold wk; omega
theorem wk_year {q : Int} (h : 0 ≤ q) : wk (12 * q + 12) - wk (12 * q) = 364 ∨ wk (12 * q + 12) - wk (12 * q) = 371 := by
  have := lgs_next h
  unfold wk
  rw [show (12 * q + 12) / 12 = q + 1 by omega, show 12 * q / 12 = q by omega]; omega
theorem wdays_seven (p : Int) : wdays p % 7 = 0 := by unfold wdays; split <;> (try split) <;> omega

/-- a calendar that may begin so, and where its periods begin -/
def Beg (K F : Int) (g : Int → Int) : Prop :=
  (K = 1 ∧ 1 ≤ F ∧ F ≤ 999668 ∧ g = fun p => F + wk p) ∨ (K = 0 ∧ ∃ a, 0 ≤ a ∧ a ≤ 32843 ∧ F = mnum a ∧ g = fun p => mnum (a + p))
/-- a calendar that may be -/
def Cal (K F : Int) (g : Int → Int) : Prop := Beg K F g ∧ g 240 ≤ 999669

theorem mnum_mono (k : Int) (h : 0 ≤ k) : ∀ n : Nat, mnum k + 28 * n ≤ mnum (k + n) ∧ mnum (k + n) ≤ mnum k + 31 * n
  | 0 => by simp
  | n + 1 => by
    have a := mnum_mono k h n
    have b := mnum_next (k := k + n) (by omega)
    have c := mdim_bd (k := k + n) (by omega)
    rw [show k + ((n + 1 : Nat) : Int) = k + n + 1 by omega]; omega
theorem mnum_le {a b : Int} (h : 0 ≤ a) (h1 : a ≤ b) : mnum a + 28 * (b - a) ≤ mnum b ∧ mnum b ≤ mnum a + 31 * (b - a) := by
  have := mnum_mono a h (b - a).toNat
  rw [show a + ((b - a).toNat : Int) = b by omega] at this; omega
theorem mnum_in {k : Int} (h : 0 ≤ k) : mnum k ≤ 999669 ↔ k ≤ 32844 := by
  constructor
  · intro e
    by_cases q : k ≤ 32844
    · exact q
    · have := mnum_le (a := 32844) (b := k) (by omega) (by omega)
      rw [mnum_last] at this; omega
  · intro e
    have := mnum_le h e
    rw [mnum_last] at this; omega
theorem mnum_pos {k : Int} (h : 0 ≤ k) : 1 ≤ mnum k := by
  have := mnum_le (a := 0) (b := k) (by omega) h
  rw [show mnum 0 = 1 by decide] at this; omega
theorem mnum_bd {k : Int} (h : 0 ≤ k) (h1 : k ≤ 33100) : 1 ≤ mnum k ∧ mnum k ≤ 2100000 := by
  refine ⟨mnum_pos h, ?_⟩
  have := mnum_le (a := 0) (b := k) (by omega) h
  rw [show mnum 0 = 1 by decide] at this; omega

theorem Beg.zero {K F : Int} {g : Int → Int} (h : Beg K F g) : g 0 = F := by
  rcases h with ⟨_, _, _, rfl⟩ | ⟨_, a, _, _, rfl, rfl⟩
  · show F + wk 0 = F; rw [wk_zero]; omega
  · show mnum (a + 0) = mnum a; rw [Int.add_zero]
theorem Beg.one {K F : Int} {g g' : Int → Int} (h : Beg K F g) (h' : Beg K F g') : g = g' := by
  rcases h with ⟨h1, _, _, rfl⟩ | ⟨h1, a, a1, a2, h2, rfl⟩ <;> rcases h' with ⟨h3, _, _, rfl⟩ | ⟨h3, b, b1, b2, h4, rfl⟩
  · rfl
  · omega
  · omega
  · have : a = b := by
      by_cases l : a < b
      · have := mnum_le a1 (Int.le_of_lt l); omega
      · have := mnum_le (a := b) (b := a) b1 (by omega); omega
    rw [this]
theorem Beg.step {K F : Int} {g : Int → Int} (h : Beg K F g) {p : Int} (h0 : 0 ≤ p) : g p + 28 ≤ g (p + 1) ∧ g (p + 1) ≤ g p + 42 := by
  rcases h with ⟨_, _, _, rfl⟩ | ⟨_, a, a1, _, rfl, rfl⟩
  · have := wk_next h0; have := wdays_bd p; show F + wk p + 28 ≤ F + wk (p + 1) ∧ F + wk (p + 1) ≤ F + wk p + 42; omega
  · have := mnum_next (k := a + p) (by omega); have := mdim_bd (k := a + p) (by omega)
    show mnum (a + p) + 28 ≤ mnum (a + (p + 1)) ∧ mnum (a + (p + 1)) ≤ mnum (a + p) + 42
    rw [← Int.add_assoc]; omega
theorem Beg.mono' {K F : Int} {g : Int → Int} (h : Beg K F g) (p : Int) (h0 : 0 ≤ p) : ∀ n : Nat, g p + 28 * n ≤ g (p + n)
  | 0 => by simp
  | n + 1 => by
    have a := h.mono' p h0 n
    have b := h.step (p := p + n) (by omega)
    rw [show p + ((n + 1 : Nat) : Int) = p + n + 1 by omega]; omega
theorem Beg.mono {K F : Int} {g : Int → Int} (h : Beg K F g) {p q : Int} (h0 : 0 ≤ p) (h1 : p ≤ q) : g p + 28 * (q - p) ≤ g q := by
  have := h.mono' p h0 (q - p).toNat
  rw [show p + ((q - p).toNat : Int) = q by omega] at this; omega
theorem Beg.first {K F : Int} {g : Int → Int} (h : Beg K F g) : 1 ≤ F ∧ F ≤ 999668 := by
  rcases h with ⟨_, a, b, _⟩ | ⟨_, a, a1, a2, rfl, _⟩
  · exact ⟨a, b⟩
  · have := isd_bd (mnum_may a1 a2); exact this
theorem Beg.bd {K F : Int} {g : Int → Int} (h : Beg K F g) {p : Int} (h0 : 0 ≤ p) (h1 : p ≤ 240) : 1 ≤ g p ∧ g p ≤ 3000000 := by
  have hf := h.first
  have hz := h.zero
  have hm := h.mono (p := 0) (q := p) (by omega) h0
  refine ⟨by omega, ?_⟩
  rcases h with ⟨_, _, _, rfl⟩ | ⟨_, a, a1, a2, rfl, rfl⟩
  · have := wk_bd h0 h1; show F + wk p ≤ 3000000; omega
  · have := mnum_bd (k := a + p) (by omega) (by omega); show mnum (a + p) ≤ 3000000; omega
theorem Cal.bd {K F : Int} {g : Int → Int} (h : Cal K F g) {p : Int} (h0 : 0 ≤ p) (h1 : p ≤ 240) : 1 ≤ g p ∧ g p ≤ 999669 := by
  have a := h.1.bd h0 h1
  have b := h.1.mono h0 h1
  have := h.2
  omega
end Go.Proofs.YtmodnkdgkdpacaaDoor
