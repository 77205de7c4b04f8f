/- Both sides of a contract, and the postings of a change, plainly. -/
import Derived.Test.YtiaocahcdbikhaaAcMath
import Derived.Test.YtiaocahcdbikhaaB
namespace Go.Proofs.Ytiaocahcdbikhaa
open Go.RowKit

/-- the liability, the asset -/
def liaV (b r : Int) : Int := if r < b then b - r else 0
def assV (b r : Int) : Int := if r < b then 0 else r - b
def sidE (b r : Int) : Int := if b < 0 ∨ r < 0 then 1 else 0
/-- a posting, if it isn't of 0 -/
def onePo (a c n : Int) : List Po := if n = 0 then [] else [⟨a, c, n⟩]
/-- of so much more billed and recognized: why there are none, and the postings -/
def ntE (c b r x y : Int) : Int := if c < 0 ∨ 39 < c ∨ b < 0 ∨ r < 0 then 1 else if tellE (b + x) ≠ 0 ∨ tellE (r + y) ≠ 0 then 3 else if b + x < 0 ∨ r + y < 0 then 1 else 0
def ntL (c b r x y : Int) : List Po := onePo 0 c x ++ (onePo 1 c (-(liaV (b + x) (r + y) - liaV b r)) ++ (onePo 2 c (assV (b + x) (r + y) - assV b r) ++ onePo 3 c (-y)))
def ntV (c b r x y : Int) : List Po := if ntE c b r x y = 0 then ntL c b r x y else []
theorem sides_diff (b r : Int) : liaV b r - assV b r = b - r := by
  unfold liaV assV; split <;> omega
theorem sides_bd {b r : Int} (hb : 0 ≤ b) (hb1 : b ≤ 9223372036854775807) (hr : 0 ≤ r) (hr1 : r ≤ 9223372036854775807) : 0 ≤ liaV b r ∧ liaV b r ≤ 9223372036854775807 ∧ 0 ≤ assV b r ∧ assV b r ≤ 9223372036854775807 ∧ (liaV b r = 0 ∨ assV b r = 0) := by
  unfold liaV assV; split <;> omega
/-- what is asked where nothing is refused -/
structure NtOk (c b r x y : Int) : Prop where
  c0 : 0 ≤ c
  c1 : c ≤ 39
  b0 : 0 ≤ b
  r0 : 0 ≤ r
  b2 : 0 ≤ b + x
  b3 : b + x ≤ 9223372036854775807
  r2 : 0 ≤ r + y
  r3 : r + y ≤ 9223372036854775807
theorem nt_ok {c b r x y : Int} (h : ntE c b r x y = 0) : NtOk c b r x y := by
  unfold ntE at h
  split at h
  · cases h
  · split at h
    · cases h
    · rename_i q1 q2
      split at h
      · cases h
      · rename_i q3
        have e : ∀ v : Int, tellE v = 0 → -9223372036854775808 ≤ v ∧ v ≤ 9223372036854775807 := fun v hv => by
          unfold tellE at hv
          split at hv
          · assumption
          · cases hv
        have h1 := e (b + x) (Classical.byContradiction fun z => q2 (.inl z))
        have h2 := e (r + y) (Classical.byContradiction fun z => q2 (.inr z))
        exact ⟨by omega, by omega, by omega, by omega, by omega, by omega, by omega, by omega⟩
/-- the sum of postings -/
def sumPo : List Po → Int
  | [] => 0
  | p :: l => p.m + sumPo l
theorem sumPo_app (k l : List Po) : sumPo (k ++ l) = sumPo k + sumPo l := by
  induction k with
  | nil => simp [sumPo]
  | cons p k ih => simp only [List.cons_append, sumPo, ih]; omega
theorem sumPo_one (a c n : Int) : sumPo (onePo a c n) = n := by
  unfold onePo; split
  · rename_i q; rw [q]; rfl
  · simp [sumPo]
theorem nt_even (c b r x y : Int) : sumPo (ntL c b r x y) = 0 := by
  unfold ntL
  rw [sumPo_app, sumPo_app, sumPo_app, sumPo_one, sumPo_one, sumPo_one, sumPo_one]
  have h1 := sides_diff b r
  have h2 := sides_diff (b + x) (r + y)
  omega
theorem mem_onePo {a c n : Int} {p : Po} (h : p ∈ onePo a c n) : p = ⟨a, c, n⟩ ∧ n ≠ 0 := by
  unfold onePo at h
  split at h
  · cases h
  · rename_i q; exact ⟨by simpa using h, q⟩
/-- each posting: of the contract, not of 0, an amount, of one of the four accounts -/
theorem nt_each {c b r x y : Int} (h : NtOk c b r x y) (hb1 : b ≤ 9223372036854775807) (hr1 : r ≤ 9223372036854775807) : ∀ p ∈ ntL c b r x y, p.c = c ∧ p.m ≠ 0 ∧ Am p.m ∧ 0 ≤ p.a ∧ p.a ≤ 3 := by
  intro p hp
  have s1 := sides_bd h.b0 hb1 h.r0 hr1
  have s2 := sides_bd h.b2 h.b3 h.r2 h.r3
  have := h.b0; have := h.r0; have := h.b2; have := h.b3; have := h.r2; have := h.r3
  unfold ntL at hp
  simp only [List.mem_append] at hp
  unfold Am
  rcases hp with hp | hp | hp | hp
  · obtain ⟨rfl, q⟩ := mem_onePo hp; exact ⟨rfl, q, by simp only; omega, by simp, by simp⟩
  · obtain ⟨rfl, q⟩ := mem_onePo hp; exact ⟨rfl, q, by simp only; omega, by simp, by simp⟩
  · obtain ⟨rfl, q⟩ := mem_onePo hp; exact ⟨rfl, q, by simp only; omega, by simp, by simp⟩
  · obtain ⟨rfl, q⟩ := mem_onePo hp; exact ⟨rfl, q, by simp only; omega, by simp, by simp⟩
theorem nt_len (c b r x y : Int) : (ntL c b r x y).length ≤ 4 := by
  have h : ∀ a n, (onePo a c n).length ≤ 1 := fun a n => by unfold onePo; split <;> simp
  unfold ntL
  simp only [List.length_append]
  have := h 0 x
  have := h 1 (-(liaV (b + x) (r + y) - liaV b r))
  have := h 2 (assV (b + x) (r + y) - assV b r)
  have := h 3 (-y)
  omega
/-- what postings move of an account -/
def movPo (a : Int) : List Po → Int
  | [] => 0
  | p :: l => (if p.a = a then p.m else 0) + movPo a l
theorem movPo_app (a : Int) (k l : List Po) : movPo a (k ++ l) = movPo a k + movPo a l := by
  induction k with
  | nil => simp [movPo]
  | cons p k ih => simp only [List.cons_append, movPo, ih]; omega
theorem movPo_one (q a c n : Int) : movPo q (onePo a c n) = if a = q then n else 0 := by
  unfold onePo
  by_cases h : n = 0
  · rw [if_pos h]; simp [movPo, h]
  · rw [if_neg h]; simp [movPo]
theorem nt_moves (c b r x y : Int) : movPo 0 (ntL c b r x y) = x ∧ movPo 1 (ntL c b r x y) = -(liaV (b + x) (r + y) - liaV b r) ∧ movPo 2 (ntL c b r x y) = assV (b + x) (r + y) - assV b r ∧ movPo 3 (ntL c b r x y) = -y := by
  unfold ntL
  simp only [movPo_app, movPo_one]
  refine ⟨?_, ?_, ?_, ?_⟩ <;> simp
/-- posted back -/
def negPo (p : Po) : Po := ⟨p.a, p.c, -p.m⟩
theorem negPo_one (a c n : Int) : (onePo a c n).map negPo = onePo a c (-n) := by
  unfold onePo
  by_cases h : n = 0
  · rw [if_pos h, if_pos (by omega)]; rfl
  · rw [if_neg h, if_neg (by omega)]; rfl
theorem nt_back (c b r x y : Int) : ntL c (b + x) (r + y) (-x) (-y) = (ntL c b r x y).map negPo := by
  unfold ntL
  simp only [List.map_append, negPo_one]
  rw [show b + x + -x = b by omega, show r + y + -y = r by omega]
  congr 2
  · congr 1; omega
  · congr 1
    congr 1; omega
theorem nt_back_ok {c b r x y : Int} (h : NtOk c b r x y) (hb1 : b ≤ 9223372036854775807) (hr1 : r ≤ 9223372036854775807) : ntE c (b + x) (r + y) (-x) (-y) = 0 := by
  have := h.c0; have := h.c1; have := h.b0; have := h.r0; have := h.b2; have := h.b3; have := h.r2; have := h.r3
  unfold ntE
  rw [show b + x + -x = b by omega, show r + y + -y = r by omega, if_neg (by omega)]
  have e1 : tellE b = 0 := by unfold tellE; rw [if_pos (by omega)]
  have e2 : tellE r = 0 := by unfold tellE; rw [if_pos (by omega)]
  rw [if_neg (by rw [e1, e2]; simp), if_neg (by omega)]
end Go.Proofs.Ytiaocahcdbikhaa
