/- The price, plainly (ahead of its code). -/
import Derived.Test.YthogokflobnfpaaBoMath
namespace Go.Proofs.Ythogokflobnfpaa
open Go.RowKit

/-- what may come -/
structure Mb where
  am : Int
  ch : Int
/-- is it sure enough? -/
def surB (b : Int) (x : Mb) : Bool := (decide (0 ≤ x.am) && decide (b ≤ x.ch)) || (decide (x.am < 0) && decide (10000 < x.ch + b))
def mbB (x : Mb) : Bool := decide (0 ≤ x.ch) && decide (x.ch ≤ 10000)
def wrE (f : Int) (l : List Mb) (b : Int) : Int := if 32 < l.length then 4 else if f < 0 ∨ b < 0 ∨ 10000 < b then 1 else if l.all mbB = true then 0 else 1
def sumM (g : Mb → Int) : List Mb → Int
  | [] => 0
  | x :: l => g x + sumM g l
theorem sumM_append (g : Mb → Int) (l l' : List Mb) : sumM g (l ++ l') = sumM g l + sumM g l' := by
  induction l with
  | nil => simp [sumM]
  | cons x l ih => simp only [List.cons_append, sumM, ih]; omega
theorem sumM_le {g h : Mb → Int} {l : List Mb} (H : ∀ x ∈ l, g x ≤ h x) : sumM g l ≤ sumM h l := by
  induction l with
  | nil => exact Int.le_refl _
  | cons x l ih =>
    have := H x (by simp)
    have := ih fun y hy => H y (by simp [hy])
    simp only [sumM]; omega
def surA (b : Int) (x : Mb) : Int := if surB b x = true then x.am else 0
def likS (f : Int) (l : List Mb) (b : Int) : Int := f + sumM (surA b) l
def meaS (f : Int) (l : List Mb) : Int := f + sumM (fun x => x.am * x.ch) l / 10000
/-- a price that is a sum -/
def pricE (s : Int) : Int := if am64 s = true then if s < 0 then 1 else 0 else 3
def pricV (s : Int) : Int := if pricE s = 0 then s else 0
def likE (f : Int) (l : List Mb) (b : Int) : Int := if wrE f l b ≠ 0 then wrE f l b else pricE (likS f l b)
def likV (f : Int) (l : List Mb) (b : Int) : Int := if likE f l b = 0 then likS f l b else 0
def meaE (f : Int) (l : List Mb) : Int := if wrE f l 0 ≠ 0 then wrE f l 0 else pricE (meaS f l)
def meaV (f : Int) (l : List Mb) : Int := if meaE f l = 0 then meaS f l else 0
theorem pricE_zero {s : Int} (h : pricE s = 0) : am64 s = true ∧ 0 ≤ s := by
  unfold pricE at h
  split at h
  · rename_i q
    split at h
    · cases h
    · exact ⟨q, by omega⟩
  · cases h
/-- a greater bound: what counts is no more -/
theorem surA_mono {b c : Int} (h : b ≤ c) (x : Mb) : surA c x ≤ surA b x := by
  unfold surA surB
  by_cases p : 0 ≤ x.am
  · have n : ¬ x.am < 0 := by omega
    simp only [p, n, decide_true, decide_false, Bool.true_and, Bool.false_and, Bool.or_false, decide_eq_true_eq]
    split <;> split <;> omega
  · have n : x.am < 0 := by omega
    simp only [p, n, decide_true, decide_false, Bool.true_and, Bool.false_and, Bool.false_or, decide_eq_true_eq]
    split <;> split <;> omega
theorem likS_mono {f b c : Int} (h : b ≤ c) (l : List Mb) : likS f l c ≤ likS f l b := by
  unfold likS
  have := sumM_le (g := surA c) (h := surA b) (l := l) fun x _ => surA_mono h x
  omega
/-- ConsiderBound, plainly -/
theorem bound_plain {f b c : Int} (h : b ≤ c) (l : List Mb) : (likE f l b ≠ 0 ∧ likV f l b = 0) ∨ (likE f l c ≠ 0 ∧ likV f l c = 0) ∨ likV f l c ≤ likV f l b := by
  by_cases p : likE f l b = 0
  · by_cases q : likE f l c = 0
    · refine .inr (.inr ?_)
      unfold likV
      rw [if_pos p, if_pos q]
      exact likS_mono h l
    · exact .inr (.inl ⟨q, by unfold likV; rw [if_neg q]⟩)
  · exact .inl ⟨p, by unfold likV; rw [if_neg p]⟩
/-- of one that may come: with the chance Whole, with none -/
theorem sure_all {f a b : Int} (h1 : 1 ≤ b) (h2 : b ≤ 10000) : likE f [⟨a, 10000⟩] b = meaE f [⟨a, 10000⟩] ∧ likV f [⟨a, 10000⟩] b = meaV f [⟨a, 10000⟩] ∧ likS f [⟨a, 10000⟩] b = f + a := by
  have e1 : likS f [⟨a, 10000⟩] b = f + a := by
    unfold likS sumM sumM surA surB
    by_cases p : 0 ≤ a
    · have n : ¬ a < 0 := by omega
      simp [p, n, h2]
    · have n : a < 0 := by omega
      have q : (10000 : Int) < 10000 + b := by omega
      simp [p, n, q]
  have e2 : meaS f [⟨a, 10000⟩] = f + a := by
    unfold meaS sumM sumM
    have : (a * 10000 + 0) / 10000 = a := by omega
    simp only [this]
  have e3 : wrE f [⟨a, 10000⟩] b = wrE f [⟨a, 10000⟩] 0 := by
    unfold wrE
    by_cases p : f < 0
    · simp [p]
    · have q1 : ¬ b < 0 := by omega
      have q2 : ¬ 10000 < b := by omega
      simp [p, q1, q2]
  have e4 : likE f [⟨a, 10000⟩] b = meaE f [⟨a, 10000⟩] := by unfold likE meaE; rw [e1, e2, e3]
  exact ⟨e4, by unfold likV meaV; rw [e4, e1, e2], e1⟩
theorem sure_none {f a b : Int} (h1 : 1 ≤ b) (h2 : b ≤ 10000) : likS f [⟨a, 0⟩] b = f ∧ meaS f [⟨a, 0⟩] = f := by
  constructor
  · unfold likS sumM sumM surA surB
    have p1 : ¬ b ≤ 0 := by omega
    have p2 : ¬ (10000 : Int) < 0 + b := by omega
    simp [p1]
    omega
  · unfold meaS sumM sumM
    simp
/-- what is lost, and gained, at most -/
theorem mean_plain {f : Int} {l : List Mb} (h : l.all mbB = true) : f + sumM (fun x => if x.am < 0 then x.am else 0) l ≤ meaS f l ∧ meaS f l ≤ f + sumM (fun x => if x.am < 0 then 0 else x.am) l := by
  have hx : ∀ x ∈ l, 0 ≤ x.ch ∧ x.ch ≤ 10000 := fun x hx => by
    have := List.all_eq_true.1 h x hx
    simpa [mbB] using this
  have key : 10000 * sumM (fun x => if x.am < 0 then x.am else 0) l ≤ sumM (fun x => x.am * x.ch) l ∧ sumM (fun x => x.am * x.ch) l ≤ 10000 * sumM (fun x => if x.am < 0 then 0 else x.am) l := by
    clear h
    induction l with
    | nil => simp [sumM]
    | cons x l ih =>
      obtain ⟨h1, h2⟩ := ih fun y hy => hx y (by simp [hy])
      obtain ⟨c1, c2⟩ := hx x (by simp)
      simp only [sumM]
      by_cases p : x.am < 0
      · rw [if_pos p, if_pos p]
        have a1 : x.am * 10000 ≤ x.am * x.ch := Int.mul_le_mul_of_nonpos_left (by omega) c2
        have a2 : x.am * x.ch ≤ 0 := Int.mul_nonpos_of_nonpos_of_nonneg (by omega) c1
        omega
      · rw [if_neg p, if_neg p]
        have a1 : x.am * x.ch ≤ x.am * 10000 := Int.mul_le_mul_of_nonneg_left c2 (by omega)
        have a2 : 0 ≤ x.am * x.ch := Int.mul_nonneg (by omega) c1
        omega
  unfold meaS
  omega
/-- the program's words on what is sure enough -/
def surP (b : Int) (x : Mb) : Bool := if 0 < x.am then decide (b ≤ x.ch) else decide (10000 - b < x.ch)
def ptsS (b : Int) (x : Mb) : Int := if surP b x = true then 10000 else 0
theorem pts_sur (b : Int) (x : Mb) : x.am * ptsS b x = 10000 * surA b x := by
  unfold ptsS surP surA surB
  rcases Int.lt_trichotomy x.am 0 with h | h | h
  · have h1 : ¬ 0 < x.am := by omega
    have h2 : ¬ 0 ≤ x.am := by omega
    simp only [h, h1, h2, if_false, decide_false, decide_true, Bool.false_and, Bool.true_and, Bool.false_or, decide_eq_true_eq]
    split <;> split <;> omega
  · rw [h]; simp
  · have h1 : ¬ x.am < 0 := by omega
    have h2 : 0 ≤ x.am := by omega
    simp only [h, h1, h2, if_true, decide_false, decide_true, Bool.false_and, Bool.true_and, Bool.or_false, decide_eq_true_eq]
    split <;> omega
/-- a part by points, and its rest -/
def cP (c : Mb → Int) (x : Mb) : Int := x.am * c x / 10000
def cR (c : Mb → Int) (x : Mb) : Int := x.am * c x % 10000
theorem cR_in (c : Mb → Int) (x : Mb) : 0 ≤ cR c x ∧ cR c x ≤ 9999 := by unfold cR; omega
theorem parts_rests (c : Mb → Int) (l : List Mb) : sumM (fun x => x.am * c x) l = 10000 * sumM (cP c) l + sumM (cR c) l := by
  induction l with
  | nil => rfl
  | cons x l ih =>
    simp only [sumM, ih]
    have : 10000 * cP c x + cR c x = x.am * c x := Int.mul_ediv_add_emod _ _
    omega
theorem rests_in (c : Mb → Int) (l : List Mb) : 0 ≤ sumM (cR c) l ∧ sumM (cR c) l ≤ 9999 * (l.length : Int) := by
  induction l with
  | nil => simp [sumM]
  | cons x l ih =>
    have := cR_in c x
    simp only [sumM, List.length_cons]; omega
def sumL : List Int → Int
  | [] => 0
  | x :: l => x + sumL l
theorem sumL_append (l l' : List Int) : sumL (l ++ l') = sumL l + sumL l' := by
  induction l with
  | nil => simp [sumL]
  | cons x l ih => simp only [List.cons_append, sumL, ih]; omega
theorem sumL_map (g : Mb → Int) (l : List Mb) : sumL (l.map g) = sumM g l := by
  induction l with
  | nil => rfl
  | cons x l ih => simp only [List.map_cons, sumL, sumM, ih]
/-- what parts tells -/
def outP (c : Mb → Int) (l : List Mb) : List Int := l.map (cP c) ++ [sumM (cR c) l / 10000]
theorem outP_len (c : Mb → Int) (l : List Mb) : (outP c l).length = l.length + 1 := by simp [outP]
theorem outP_sum (c : Mb → Int) (l : List Mb) : sumL (outP c l) = sumM (fun x => x.am * c x) l / 10000 := by
  unfold outP
  rw [sumL_append, sumL_map, parts_rests]
  simp only [sumL]; omega
def totS (c : Mb → Int) (f : Int) (l : List Mb) : Int := f + sumM (fun x => x.am * c x) l / 10000
theorem sumM_congr {g h : Mb → Int} {l : List Mb} (H : ∀ x ∈ l, g x = h x) : sumM g l = sumM h l := by
  induction l with
  | nil => rfl
  | cons x l ih => simp only [sumM]; rw [H x (by simp), ih fun y hy => H y (by simp [hy])]
theorem sumM_times (k : Int) (g : Mb → Int) (l : List Mb) : sumM (fun x => k * g x) l = k * sumM g l := by
  induction l with
  | nil => simp [sumM]
  | cons x l ih => simp only [sumM, ih]; rw [Int.mul_add]
theorem tot_lik (f b : Int) (l : List Mb) : totS (ptsS b) f l = likS f l b := by
  unfold totS likS
  rw [sumM_congr (h := fun x => 10000 * surA b x) (fun x _ => pts_sur b x), sumM_times]
  omega
/-- a call's answer, whichever points count -/
def copE (c : Mb → Int) (f : Int) (l : List Mb) (b : Int) : Int := if wrE f l b ≠ 0 then wrE f l b else pricE (totS c f l)
def copV (c : Mb → Int) (f : Int) (l : List Mb) (b : Int) : Int := if copE c f l b = 0 then totS c f l else 0
theorem cop_lik (f b : Int) (l : List Mb) : copE (ptsS b) f l b = likE f l b ∧ copV (ptsS b) f l b = likV f l b := by
  have e : copE (ptsS b) f l b = likE f l b := by unfold copE likE; rw [tot_lik]
  exact ⟨e, by unfold copV likV; rw [e, tot_lik]⟩
theorem cop_mea (f : Int) (l : List Mb) : copE Mb.ch f l 0 = meaE f l ∧ copV Mb.ch f l 0 = meaV f l := ⟨rfl, rfl⟩
def mbG (x : Mb) : Prop := Am x.am ∧ Am x.ch
/-- points of a fine list -/
structure Pts (c : Mb → Int) (l : List Mb) : Prop where
  pts : ∀ x ∈ l, 0 ≤ c x ∧ c x ≤ 10000
  am : ∀ x ∈ l, Am x.am
theorem cP_am {a p : Int} (ha : Am a) (h0 : 0 ≤ p) (h1 : p ≤ 10000) : Am (a * p / 10000) := by
  unfold Am at ha ⊢
  have a1 : a * p ≤ 9223372036854775807 * p := Int.mul_le_mul_of_nonneg_right ha.2 h0
  have a2 : -9223372036854775808 * p ≤ a * p := Int.mul_le_mul_of_nonneg_right ha.1 h0
  omega
theorem wrE_zero {f b : Int} {l : List Mb} (h : wrE f l b = 0) : l.length ≤ 32 ∧ 0 ≤ f ∧ 0 ≤ b ∧ b ≤ 10000 ∧ ∀ x ∈ l, 0 ≤ x.ch ∧ x.ch ≤ 10000 := by
  unfold wrE at h
  split at h
  · cases h
  · split at h
    · cases h
    · split at h
      · rename_i h1 h2 h3
        refine ⟨by omega, by omega, by omega, by omega, fun x hx => ?_⟩
        have := List.all_eq_true.1 h3 x hx
        simpa [mbB] using this
      · cases h
end Go.Proofs.Ythogokflobnfpaa
