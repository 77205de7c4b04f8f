/- What is told of an obligation, and what is done, plainly. -/
import Derived.Test.YtobdcogaphkogaaKit
namespace Go.Proofs.Ytobdcogaphkogaa

/-- an obligation -/
structure Dt where
  ls : List Int
  al : Int
  un : Int
  me : Int
  fi : Int
  la : Int
/-- one that may be -/
def dtB (d : Dt) : Bool := decide (0 ≤ d.me) && decide (d.me ≤ 3) && decide (1 ≤ d.un) && decide (1 ≤ d.fi) && decide (d.la ≤ 1000000) && decide (d.fi ≤ d.la)
theorem dtB_iff {d : Dt} : dtB d = true ↔ 0 ≤ d.me ∧ d.me ≤ 3 ∧ 1 ≤ d.un ∧ 1 ≤ d.fi ∧ d.la ≤ 1000000 ∧ d.fi ≤ d.la := by
  unfold dtB
  simp only [Bool.and_eq_true, decide_eq_true_eq, and_assoc]
/-- a day and a number of it -/
abbrev Tl := Int × Int
def sumT : List Tl → Int
  | [] => 0
  | x :: l => x.2 + sumT l
/-- together, and the greatest, up to a day -/
def thrS (day : Int) : List Tl → Int
  | [] => 0
  | x :: l => (if x.1 ≤ day then x.2 else 0) + thrS day l
def thrM (day : Int) : List Tl → Int
  | [] => 0
  | x :: l => max (if x.1 ≤ day then x.2 else 0) (thrM day l)
def twiT (day : Int) (E : List Tl) : Bool := E.any fun x => decide (x.1 = day)
def badB (day n : Int) (x : Tl) : Bool := (decide (x.1 < day) && decide (n < x.2)) || (decide (day < x.1) && decide (x.2 < n))
def badT (day n : Int) (E : List Tl) : Bool := E.any (badB day n)
def risT (day n : Int) (E : List Tl) : Int := if twiT day E = true then 6 else if badT day n E = true then 11 else 0
def finT (E : List Tl) (n : Int) : Int := if 200 ≤ E.length then 4 else if 9223372036854775807 < sumT E + n then 3 else 0
/-- what a log answers, and has then -/
def telE (m : Int) (E : List Tl) (day n : Int) : Int :=
  if day < 1 ∨ 1000000 < day ∨ n < 1 then 1
  else if m = 2 then (if 10000 < n then 1 else if risT day n E = 0 then finT E n else risT day n E)
  else if m = 3 then finT E n else 1
def telS (m : Int) (E : List Tl) (day n : Int) : List Tl := if telE m E day n = 0 then E ++ [(day, n)] else E
/-- what is done, and the whole -/
def thrV (d : Dt) (E : List Tl) (day : Int) : Int :=
  if d.me = 2 then thrM day E else if d.me = 3 then min (thrS day E) d.un
  else if d.me = 1 then (if day < d.fi then 0 else 1) else (if day < d.fi then 0 else if d.la < day then d.la - d.fi + 1 else day - d.fi + 1)
def thrW (d : Dt) : Int := if d.me = 2 then 10000 else if d.me = 3 then d.un else if d.me = 1 then 1 else d.la - d.fi + 1
/-- two that may be told of one obligation -/
def FitT (x y : Tl) : Prop := x.1 ≠ y.1 ∧ (x.1 < y.1 → x.2 ≤ y.2) ∧ (y.1 < x.1 → y.2 ≤ x.2)
structure FineT (d : Dt) (E : List Tl) : Prop where
  may : dtB d = true
  len : E.length ≤ 200
  ok : ∀ x ∈ E, 1 ≤ x.1 ∧ x.1 ≤ 1000000 ∧ 1 ≤ x.2
  sum : sumT E ≤ 9223372036854775807
  mil : d.me = 2 → (∀ x ∈ E, x.2 ≤ 10000) ∧ E.Pairwise FitT
  non : d.me ≠ 2 → d.me ≠ 3 → E = []

theorem FitT.symm {x y : Tl} (h : FitT x y) : FitT y x := ⟨fun e => h.1 e.symm, h.2.2, h.2.1⟩
theorem sumT_app (A B : List Tl) : sumT (A ++ B) = sumT A + sumT B := by
  induction A with
  | nil => simp [sumT]
  | cons x A ih => simp only [List.cons_append, sumT, ih]; omega
theorem thrS_app (day : Int) (A B : List Tl) : thrS day (A ++ B) = thrS day A + thrS day B := by
  induction A with
  | nil => simp [thrS]
  | cons x A ih => simp only [List.cons_append, thrS, ih]; omega
theorem thrM_nn (day : Int) (E : List Tl) : 0 ≤ thrM day E := by
  induction E with
  | nil => simp [thrM]
  | cons x E ih => unfold thrM; omega
theorem thrM_app (day : Int) (A B : List Tl) : thrM day (A ++ B) = max (thrM day A) (thrM day B) := by
  induction A with
  | nil => have := thrM_nn day B; simp only [List.nil_append, thrM]; omega
  | cons x A ih => simp only [List.cons_append, thrM, ih]; omega
theorem sumT_nn {E : List Tl} (h : ∀ x ∈ E, 1 ≤ x.1 ∧ x.1 ≤ 1000000 ∧ 1 ≤ x.2) : 0 ≤ sumT E := by
  induction E with
  | nil => simp [sumT]
  | cons x E ih =>
    have := ih fun y hy => h y (List.mem_cons_of_mem _ hy)
    have := h x (List.mem_cons_self ..)
    unfold sumT; omega
theorem thrS_bd {E : List Tl} (day : Int) (h : ∀ x ∈ E, 1 ≤ x.1 ∧ x.1 ≤ 1000000 ∧ 1 ≤ x.2) : 0 ≤ thrS day E ∧ thrS day E ≤ sumT E := by
  induction E with
  | nil => simp [sumT, thrS]
  | cons x E ih =>
    have := ih fun y hy => h y (List.mem_cons_of_mem _ hy)
    have := h x (List.mem_cons_self ..)
    unfold sumT thrS; split <;> omega
theorem thrS_all {E : List Tl} (h : ∀ x ∈ E, 1 ≤ x.1 ∧ x.1 ≤ 1000000 ∧ 1 ≤ x.2) : thrS 1000000 E = sumT E := by
  induction E with
  | nil => simp [sumT, thrS]
  | cons x E ih =>
    have := ih fun y hy => h y (List.mem_cons_of_mem _ hy)
    have := h x (List.mem_cons_self ..)
    unfold sumT thrS; rw [if_pos (by omega)]; omega
theorem thrS_mono {E : List Tl} {a b : Int} (hab : a ≤ b) (h : ∀ x ∈ E, 1 ≤ x.1 ∧ x.1 ≤ 1000000 ∧ 1 ≤ x.2) : thrS a E ≤ thrS b E := by
  induction E with
  | nil => simp [thrS]
  | cons x E ih =>
    have := ih fun y hy => h y (List.mem_cons_of_mem _ hy)
    have := h x (List.mem_cons_self ..)
    unfold thrS; split <;> split <;> omega
theorem thrM_mono {E : List Tl} {a b : Int} (hab : a ≤ b) (h : ∀ x ∈ E, 1 ≤ x.1 ∧ x.1 ≤ 1000000 ∧ 1 ≤ x.2) : thrM a E ≤ thrM b E := by
  induction E with
  | nil => simp [thrM]
  | cons x E ih =>
    have := ih fun y hy => h y (List.mem_cons_of_mem _ hy)
    have := h x (List.mem_cons_self ..)
    unfold thrM; split <;> split <;> omega
theorem thrM_le {E : List Tl} (day : Int) {m : Int} (hm : 0 ≤ m) (h : ∀ x ∈ E, x.2 ≤ m) : thrM day E ≤ m := by
  induction E with
  | nil => simpa [thrM] using hm
  | cons x E ih =>
    have := ih fun y hy => h y (List.mem_cons_of_mem _ hy)
    have := h x (List.mem_cons_self ..)
    unfold thrM; split <;> omega
theorem sumT_rev (E : List Tl) : sumT E.reverse = sumT E := by
  induction E with
  | nil => rfl
  | cons x E ih => rw [List.reverse_cons, sumT_app, ih]; simp only [sumT]; omega
theorem thrS_rev (day : Int) (E : List Tl) : thrS day E.reverse = thrS day E := by
  induction E with
  | nil => rfl
  | cons x E ih => rw [List.reverse_cons, thrS_app, ih]; simp only [thrS]; omega
theorem thrM_rev (day : Int) (E : List Tl) : thrM day E.reverse = thrM day E := by
  induction E with
  | nil => rfl
  | cons x E ih =>
    have := thrM_nn day E
    rw [List.reverse_cons, thrM_app, ih]; simp only [thrM]; omega
theorem thrV_rev (d : Dt) (E : List Tl) (day : Int) : thrV d E.reverse day = thrV d E day := by
  unfold thrV; rw [thrM_rev, thrS_rev]
theorem bad_fit {day n : Int} {x : Tl} (h1 : x.1 ≠ day) (h2 : badB day n x = false) : FitT x (day, n) := by
  unfold badB at h2
  simp only [Bool.or_eq_false_iff, Bool.and_eq_false_iff, decide_eq_false_iff_not] at h2
  exact ⟨h1, fun q => by have q : x.1 < day := q; show x.2 ≤ n; omega, fun q => by have q : day < x.1 := q; show n ≤ x.2; omega⟩
theorem ris_zero {E : List Tl} {day n : Int} : risT day n E = 0 ↔ ∀ x ∈ E, FitT x (day, n) := by
  unfold risT
  constructor
  · intro h
    split at h
    · cases h
    · rename_i q1
      split at h
      · cases h
      · rename_i q2
        intro x hx
        have q1' : twiT day E = false := by simpa using q1
        have q2' : badT day n E = false := by simpa using q2
        have h1 := List.any_eq_false.1 q1' x hx
        have h2 := List.any_eq_false.1 q2' x hx
        exact bad_fit (by simpa using h1) (by simpa using h2)
  · intro h
    have q1 : twiT day E = false := List.any_eq_false.2 fun x hx => by simpa using (h x hx).1
    have q2 : badT day n E = false := List.any_eq_false.2 fun x hx => by
      have h1 := h x hx
      obtain ⟨h1, h2, h3⟩ := h1
      unfold badB
      simp only [Bool.or_eq_true, Bool.and_eq_true, decide_eq_true_eq]
      rintro (⟨a, b⟩ | ⟨a, b⟩)
      · have := h2 a; simp only at this; omega
      · have := h3 a; simp only at this; omega
    rw [q1, q2]; simp
theorem tel_zero {m : Int} {E : List Tl} {day n : Int} : telE m E day n = 0 ↔ (1 ≤ day ∧ day ≤ 1000000 ∧ 1 ≤ n) ∧ (m = 2 ∨ m = 3) ∧ (m = 2 → n ≤ 10000 ∧ risT day n E = 0) ∧ E.length < 200 ∧ sumT E + n ≤ 9223372036854775807 := by
  have hf : finT E n = 0 ↔ E.length < 200 ∧ sumT E + n ≤ 9223372036854775807 := by
    unfold finT
    split
    · omega
    · split <;> omega
  unfold telE
  by_cases q0 : day < 1 ∨ 1000000 < day ∨ n < 1
  · rw [if_pos q0]; omega
  rw [if_neg q0]
  by_cases q1 : m = 2
  · rw [if_pos q1]
    by_cases q2 : 10000 < n
    · rw [if_pos q2]
      constructor
      · omega
      · rintro ⟨_, _, h, _⟩
        have := (h q1).1
        omega
    · rw [if_neg q2]
      by_cases q3 : risT day n E = 0
      · rw [if_pos q3, hf]
        exact ⟨fun h => ⟨by omega, .inl q1, fun _ => ⟨by omega, q3⟩, h⟩, fun h => h.2.2.2⟩
      · rw [if_neg q3]
        exact ⟨fun h => absurd h q3, fun h => (h.2.2.1 q1).2⟩
  · rw [if_neg q1]
    by_cases q2 : m = 3
    · rw [if_pos q2, hf]
      exact ⟨fun h => ⟨by omega, .inr q2, fun e => absurd e q1, h⟩, fun h => h.2.2.2⟩
    · rw [if_neg q2]; omega
theorem FineT.nil {d : Dt} (h : dtB d = true) : FineT d [] := ⟨h, by simp, fun x hx => (by cases hx), by simp [sumT], fun _ => ⟨fun x hx => (by cases hx), .nil⟩, fun _ _ => rfl⟩
theorem FineT.more {d : Dt} {E : List Tl} {day n : Int} (h : FineT d E) (h0 : telE d.me E day n = 0) : FineT d (E ++ [(day, n)]) := by
  obtain ⟨h1, h2, h3, h4, h5⟩ := tel_zero.1 h0
  refine ⟨h.may, by rw [List.length_append]; simp; omega, fun x hx => ?_, by rw [sumT_app]; simpa [sumT] using h5, fun hm => ⟨fun x hx => ?_, ?_⟩, fun q1 q2 => by omega⟩
  · rcases List.mem_append.1 hx with hx | hx
    · exact h.ok x hx
    · obtain rfl : x = (day, n) := by simpa using hx
      exact h1
  · rcases List.mem_append.1 hx with hx | hx
    · exact (h.mil hm).1 x hx
    · obtain rfl : x = (day, n) := by simpa using hx
      exact (h3 hm).1
  · rw [List.pairwise_append]
    refine ⟨(h.mil hm).2, by simp, fun x hx y hy => ?_⟩
    obtain rfl : y = (day, n) := by simpa using hy
    exact ris_zero.1 (h3 hm).2 x hx
theorem FineT.tel {d : Dt} {E : List Tl} (h : FineT d E) (day n : Int) : FineT d (telS d.me E day n) := by
  unfold telS
  split
  · rename_i q; exact h.more q
  · exact h
theorem FineT.front {d : Dt} {A C : List Tl} (h : FineT d (A ++ C)) : FineT d A := by
  have hs := h.sum
  rw [sumT_app] at hs
  have := sumT_nn (E := C) fun x hx => h.ok x (List.mem_append_right _ hx)
  have hl := h.len
  rw [List.length_append] at hl
  refine ⟨h.may, by omega, fun x hx => h.ok x (List.mem_append_left _ hx), by omega, fun hm => ⟨fun x hx => (h.mil hm).1 x (List.mem_append_left _ hx), (List.pairwise_append.1 (h.mil hm).2).1⟩, fun q1 q2 => ?_⟩
  have := h.non q1 q2
  exact (List.append_eq_nil_iff.1 this).1
theorem FineT.last {d : Dt} {A : List Tl} {b : Tl} (h : FineT d (A ++ [b])) : telE d.me A b.1 b.2 = 0 := by
  have hb := h.ok b (by simp)
  have hs := h.sum
  rw [sumT_app] at hs
  have hl := h.len
  rw [List.length_append] at hl
  simp [sumT] at hs hl
  refine tel_zero.2 ⟨hb, ?_, fun hm => ⟨(h.mil hm).1 b (by simp), ris_zero.2 fun x hx => ?_⟩, by omega, hs⟩
  · by_cases q1 : d.me = 2
    · exact .inl q1
    · by_cases q2 : d.me = 3
      · exact .inr q2
      · have := h.non q1 q2; simp at this
  · exact (List.pairwise_append.1 (h.mil hm).2).2.2 x hx b (by simp)
theorem FineT.rev {d : Dt} {E : List Tl} (h : FineT d E) : FineT d E.reverse := by
  refine ⟨h.may, by rw [List.length_reverse]; exact h.len, fun x hx => h.ok x (List.mem_reverse.1 hx), by rw [sumT_rev]; exact h.sum, fun hm => ⟨fun x hx => (h.mil hm).1 x (List.mem_reverse.1 hx), ?_⟩, fun q1 q2 => by rw [h.non q1 q2]; rfl⟩
  rw [List.pairwise_reverse]
  exact (h.mil hm).2.imp fun q => q.symm
/-- what is told behind one another, turned about, is told -/
theorem FineT.turn {d : Dt} {A C : List Tl} {b : Tl} (h : FineT d (A ++ b :: C)) : telE d.me C.reverse b.1 b.2 = 0 := by
  have h1 := h.rev
  rw [List.reverse_append, List.reverse_cons] at h1
  exact h1.front.last
theorem thr_in {d : Dt} {E : List Tl} (h : FineT d E) (day : Int) : 0 ≤ thrV d E day ∧ thrV d E day ≤ thrW d ∧ 1 ≤ thrW d := by
  have hd := dtB_iff.1 h.may
  unfold thrV thrW
  by_cases q2 : d.me = 2
  · rw [if_pos q2, if_pos q2]
    exact ⟨thrM_nn _ _, thrM_le _ (by omega) (h.mil q2).1, by omega⟩
  · rw [if_neg q2, if_neg q2]
    by_cases q3 : d.me = 3
    · rw [if_pos q3, if_pos q3]
      have := thrS_bd day h.ok
      omega
    · rw [if_neg q3, if_neg q3]
      by_cases q1 : d.me = 1
      · rw [if_pos q1, if_pos q1]; split <;> omega
      · rw [if_neg q1, if_neg q1]; split <;> (try split) <;> omega
theorem thr_mono {d : Dt} {E : List Tl} (h : FineT d E) {a b : Int} (hab : a ≤ b) : thrV d E a ≤ thrV d E b := by
  have hd := dtB_iff.1 h.may
  have h1 := thrS_mono hab h.ok
  have h2 := thrM_mono hab h.ok
  unfold thrV
  split
  · exact h2
  · split
    · omega
    · split
      · split <;> split <;> omega
      · split <;> split <;> (try split) <;> (try split) <;> omega
theorem thr_tel (d : Dt) (E : List Tl) (day n a : Int) : thrV d E a ≤ thrV d (telS d.me E day n) a := by
  unfold telS
  split
  · rename_i q
    have h1 := tel_zero.1 q
    unfold thrV
    rw [thrM_app, thrS_app]
    have h3 : 0 ≤ thrS a [(day, n)] := by simp only [thrS]; split <;> omega
    split
    · omega
    · split
      · omega
      · exact Int.le_refl _
  · exact Int.le_refl _
theorem tel_app {m : Int} {E : List Tl} {day n : Int} (h : telE m E day n = 0) : telS m E day n = E ++ [(day, n)] := by unfold telS; rw [if_pos h]
theorem tel_not {m : Int} {E : List Tl} {day n : Int} (h : telE m E day n ≠ 0) : telS m E day n = E := by unfold telS; rw [if_neg h]
end Go.Proofs.Ytobdcogaphkogaa
