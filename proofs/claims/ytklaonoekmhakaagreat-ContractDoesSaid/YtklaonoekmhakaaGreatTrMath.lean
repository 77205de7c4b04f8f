/- What is told of an obligation, and what is done, plainly. -/
import Derived.Test.YtklaonoekmhakaaGreatD
namespace Go.Proofs.YtklaonoekmhakaaGreat

/-- an obligation -/
structure Dt where
  ls : List Int
  al : Int
  un : Int
  me : Int
  fi : Int
  la : Int
/-- one that may be -/
def dtB (d : Dt) : Bool := decide (0 ≤ d.me) && decide (d.me ≤ 3) && decide (1 ≤ d.un) && decide (1 ≤ d.fi) && decide (d.la ≤ 1000000) && decide (d.fi ≤ d.la)
theorem dtB_iff {d : Dt} : dtB d = true ↔ 0 ≤ d.me ∧ d.me ≤ 3 ∧ 1 ≤ d.un ∧ 1 ≤ d.fi ∧ d.la ≤ 1000000 ∧ d.fi ≤ d.la := by
  unfold dtB
  simp only [Bool.and_eq_true, decide_eq_true_eq, and_assoc]
/-- a day and a number of it -/
abbrev Tl := Int × Int
def sumT : List Tl → Int
  | [] => 0
  | x :: l => x.2 + sumT l
/-- together, and the greatest, up to a day -/
def thrS (day : Int) : List Tl → Int
  | [] => 0
  | x :: l => (if x.1 ≤ day then x.2 else 0) + thrS day l
def thrM (day : Int) : List Tl → Int
  | [] => 0
  | x :: l => max (if x.1 ≤ day then x.2 else 0) (thrM day l)
def twiT (day : Int) (E : List Tl) : Bool := E.any fun x => decide (x.1 = day)
def badB (day n : Int) (x : Tl) : Bool := (decide (x.1 < day) && decide (n < x.2)) || (decide (day < x.1) && decide (x.2 < n))
def badT (day n : Int) (E : List Tl) : Bool := E.any (badB day n)
def risT (day n : Int) (E : List Tl) : Int := if twiT day E = true then 6 else if badT day n E = true then 11 else 0
def finT (E : List Tl) (n : Int) : Int := if 200 ≤ E.length then 4 else if 9223372036854775807 < sumT E + n then 3 else 0
/-- what a log answers, and has then -/
def telE (m : Int) (E : List Tl) (day n : Int) : Int :=
  if day < 1 ∨ 1000000 < day ∨ n < 1 then 1
  else if m = 2 then (if 10000 < n then 1 else if risT day n E = 0 then finT E n else risT day n E)
  else if m = 3 then finT E n else 1
def telS (m : Int) (E : List Tl) (day n : Int) : List Tl := if telE m E day n = 0 then E ++ [(day, n)] else E
/-- what is done, and the whole -/
def thrV (d : Dt) (E : List Tl) (day : Int) : Int :=
  if d.me = 2 then thrM day E else if d.me = 3 then min (thrS day E) d.un
  else if d.me = 1 then (if day < d.fi then 0 else 1) else (if day < d.fi then 0 else if d.la < day then d.la - d.fi + 1 else day - d.fi + 1)
def thrW (d : Dt) : Int := if d.me = 2 then 10000 else if d.me = 3 then d.un else if d.me = 1 then 1 else d.la - d.fi + 1
/-- two that may be told of one obligation -/
def FitT (x y : Tl) : Prop := x.1 ≠ y.1 ∧ (x.1 < y.1 → x.2 ≤ y.2) ∧ (y.1 < x.1 → y.2 ≤ x.2)
structure FineT (d : Dt) (E : List Tl) : Prop where
  may : dtB d = true
  len : E.length ≤ 200
  ok : ∀ x ∈ E, 1 ≤ x.1 ∧ x.1 ≤ 1000000 ∧ 1 ≤ x.2
  sum : sumT E ≤ 9223372036854775807
  mil : d.me = 2 → (∀ x ∈ E, x.2 ≤ 10000) ∧ E.Pairwise FitT
  non : d.me ≠ 2 → d.me ≠ 3 → E = []

theorem FitT.symm {x y : Tl} (h : FitT x y) : FitT y x := ⟨fun e => h.1 e.symm, h.2.2, h.2.1⟩
theorem sumT_app (A B : List Tl) : sumT (A ++ B) = sumT A + sumT B := by
  induction A with
  | nil => simp [sumT]
  | cons x A ih => simp only [List.cons_append, sumT, ih]; omega
theorem thrS_app (day : Int) (A B : List Tl) : thrS day (A ++ B) = thrS day A + thrS day B := by
  induction A with
  | nil => simp [thrS]
  | cons x A ih => simp only [List.cons_append, thrS, ih]; omega
theorem thrM_nn (day : Int) (E : List Tl) : 0 ≤ thrM day E := by
  induction E with
  | nil => simp [thrM]
  | cons x E ih => unfold thrM; omega
theorem thrM_app (day : Int) (A B : List Tl) : thrM day (A ++ B) = max (thrM day A) (thrM day B) := by
  induction A with
  | nil => have := thrM_nn day B; simp only [List.nil_append, thrM]; omega
  | cons x A ih => simp only [List.cons_append, thrM, ih]; omega
theorem sumT_nn {E : List Tl} (h : ∀ x ∈ E, 1 ≤ x.1 ∧ x.1 ≤ 1000000 ∧ 1 ≤ x.2) : 0 ≤ sumT E := by
  induction E with
  | nil => simp [sumT]
  | cons x E ih =>
    have := ih fun y hy => h y (List.mem_cons_of_mem _ hy)
    have := h x (List.mem_cons_self ..)
    unfold sumT; omega
theorem thrS_bd {E : List Tl} (day : Int) (h : ∀ x ∈ E, 1 ≤ x.1 ∧ x.1 ≤ 1000000 ∧ 1 ≤ x.2) : 0 ≤ thrS day E ∧ thrS day E ≤ sumT E := by
  induction E with
  | nil => simp [sumT, thrS]
  | cons x E ih =>
    have := ih fun y hy => h y (List.mem_cons_of_mem _ hy)
    have := h x (List.mem_cons_self ..)
    unfold sumT thrS; split <;> omega
theorem thrS_all {E : List Tl} (h : ∀ x ∈ E, 1 ≤ x.1 ∧ x.1 ≤ 1000000 ∧ 1 ≤ x.2) : thrS 1000000 E = sumT E := by
  induction E with
  | nil => simp [sumT, thrS]
  | cons x E ih =>
    have := ih fun y hy => h y (List.mem_cons_of_mem _ hy)
    have := h x (List.mem_cons_self ..)
    unfold sumT thrS; rw [if_pos (by omega)]; omega
theorem thrS_mono {E : List Tl} {a b : Int} (hab : a ≤ b) (h : ∀ x ∈ E, 1 ≤ x.1 ∧ x.1 ≤ 1000000 ∧ 1 ≤ x.2) : thrS a E ≤ thrS b E := by
  induction E with
  | nil => simp [thrS]
  | cons x E ih =>
    have := ih fun y hy => h y (List.mem_cons_of_mem _ hy)
    have := h x (List.mem_cons_self ..)
    unfold thrS; split <;> split <;> omega
theorem thrM_mono {E : List Tl} {a b : Int} (hab : a ≤ b) (h : ∀ x ∈ E, 1 ≤ x.1 ∧ x.1 ≤ 1000000 ∧ 1 ≤ x.2) : thrM a E ≤ thrM b E := by
  induction E with
  | nil => simp [thrM]
  | cons x E ih =>
    have := ih fun y hy => h y (List.mem_cons_of_mem _ hy)
    have := h x (List.mem_cons_self ..)
    unfold thrM; split <;> split <;> omega
theorem thrM_le {E : List Tl} (day : Int) {m : Int} (hm : 0 ≤ m) (h : ∀ x ∈ E, x.2 ≤ m) : thrM day E ≤ m := by
  induction E with
  | nil => simpa [thrM] using hm
  | cons x E ih =>
    have := ih fun y hy => h y (List.mem_cons_of_mem _ hy)
    have := h x (List.mem_cons_self ..)
    unfold thrM; split <;> omega
theorem sumT_rev (E : List Tl) : sumT E.reverse = sumT E := by
  induction E with
  | nil => rfl
  | cons x E ih => rw [List.reverse_cons, sumT_app, ih]; simp only [sumT]; omega
theorem bad_fit {day n : Int} {x : Tl} (h1 : x.1 ≠ day) (h2 : badB day n x = false) : FitT x (day, n) := by
  unfold badB at h2
  simp only [Bool.or_eq_false_iff, Bool.and_eq_false_iff, decide_eq_false_iff_not] at h2
  exact ⟨h1, fun q => by have q : x.1 < day := q; show x.2 ≤ n; omega, fun q => by have q : day < x.1 := q; show n ≤ x.2; omega⟩
theorem ris_zero {E : List Tl} {day n : Int} : risT day n E = 0 ↔ ∀ x ∈ E, FitT x (day, n) := by
  unfold risT
  constructor
  · intro h
    split at h
    · cases h
    · rename_i q1
      split at h
      · cases h
      · rename_i q2
        intro x hx
        have q1' : twiT day E = false := by simpa using q1
        have q2' : badT day n E = false := by simpa using q2
        have h1 := List.any_eq_false.1 q1' x hx
        have h2 := List.any_eq_false.1 q2' x hx
        exact bad_fit (by simpa using h1) (by simpa using h2)
  · intro h
    have q1 : twiT day E = false := List.any_eq_false.2 fun x hx => by simpa using (h x hx).1
    have q2 : badT day n E = false := List.any_eq_false.2 fun x hx => by
      have h1 := h x hx
      obtain ⟨h1, h2, h3⟩ := h1
      unfold badB
      simp only [Bool.or_eq_true, Bool.and_eq_true, decide_eq_true_eq]
      rintro (⟨a, b⟩ | ⟨a, b⟩)
      · have := h2 a; simp only at this; omega
      · have := h3 a; simp only at this; omega
    rw [q1, q2]; simp
theorem tel_zero {m : Int} {E : List Tl} {day n : Int} : telE m E day n = 0 ↔ (1 ≤ day ∧ day ≤ 1000000 ∧ 1 ≤ n) ∧ (m = 2 ∨ m = 3) ∧ (m = 2 → n ≤ 10000 ∧ risT day n E = 0) ∧ E.length < 200 ∧ sumT E + n ≤ 9223372036854775807 := by
  have hf : finT E n = 0 ↔ E.length < 200 ∧ sumT E + n ≤ 9223372036854775807 := by
    unfold finT
    split
    · omega
    · split <;> omega
  unfold telE
  by_cases q0 : day < 1 ∨ 1000000 < day ∨ n < 1
  · rw [if_pos q0]; omega
  rw [if_neg q0]
  by_cases q1 : m = 2
  · rw [if_pos q1]
    by_cases q2 : 10000 < n
    · rw [if_pos q2]
      constructor
      · omega
      · rintro ⟨_, _, h, _⟩
        have := (h q1).1
        omega
    · rw [if_neg q2]
      by_cases q3 : risT day n E = 0
      · rw [if_pos q3, hf]
        exact ⟨fun h => ⟨by omega, .inl q1, fun _ => ⟨by omega, q3⟩, h⟩, fun h => h.2.2.2⟩
      · rw [if_neg q3]
        exact ⟨fun h => absurd h q3, fun h => (h.2.2.1 q1).2⟩
  · rw [if_neg q1]
    by_cases q2 : m = 3
    · rw [if_pos q2, hf]
      exact ⟨fun h => ⟨by omega, .inr q2, fun e => absurd e q1, h⟩, fun h => h.2.2.2⟩
    · rw [if_neg q2]; omega
theorem FineT.nil {d : Dt} (h : dtB d = true) : FineT d [] := ⟨h, by simp, fun x hx => (by cases hx), by simp [sumT], fun _ => ⟨fun x hx => (by cases hx), .nil⟩, fun _ _ => rfl⟩
theorem FineT.more {d : Dt} {E : List Tl} {day n : Int} (h : FineT d E) (h0 : telE d.me E day n = 0) : FineT d (E ++ [(day, n)]) := by
  obtain ⟨h1, h2, h3, h4, h5⟩ := tel_zero.1 h0
  refine ⟨h.may, by rw [List.length_append]; simp; omega, fun x hx => ?_, by rw [sumT_app]; simpa [sumT] using h5, fun hm => ⟨fun x hx => ?_, ?_⟩, fun q1 q2 => by omega⟩
  · rcases List.mem_append.1 hx with hx | hx
    · exact h.ok x hx
    · obtain rfl : x = (day, n) := by simpa using hx
      exact h1
  · rcases List.mem_append.1 hx with hx | hx
    · exact (h.mil hm).1 x hx
    · obtain rfl : x = (day, n) := by simpa using hx
      exact (h3 hm).1
  · rw [List.pairwise_append]
    refine ⟨(h.mil hm).2, by simp, fun x hx y hy => ?_⟩
    obtain rfl : y = (day, n) := by simpa using hy
    exact ris_zero.1 (h3 hm).2 x hx
theorem FineT.tel {d : Dt} {E : List Tl} (h : FineT d E) (day n : Int) : FineT d (telS d.me E day n) := by
  unfold telS
  split
  · rename_i q; exact h.more q
  · exact h
theorem FineT.front {d : Dt} {A C : List Tl} (h : FineT d (A ++ C)) : FineT d A := by
  have hs := h.sum
  rw [sumT_app] at hs
  have := sumT_nn (E := C) fun x hx => h.ok x (List.mem_append_right _ hx)
  have hl := h.len
  rw [List.length_append] at hl
  refine ⟨h.may, by omega, fun x hx => h.ok x (List.mem_append_left _ hx), by omega, fun hm => ⟨fun x hx => (h.mil hm).1 x (List.mem_append_left _ hx), (List.pairwise_append.1 (h.mil hm).2).1⟩, fun q1 q2 => ?_⟩
  have := h.non q1 q2
  exact (List.append_eq_nil_iff.1 this).1
theorem FineT.last {d : Dt} {A : List Tl} {b : Tl} (h : FineT d (A ++ [b])) : telE d.me A b.1 b.2 = 0 := by
  have hb := h.ok b (by simp)
  have hs := h.sum
  rw [sumT_app] at hs
  have hl := h.len
  rw [List.length_append] at hl
  simp [sumT] at hs hl
  refine tel_zero.2 ⟨hb, ?_, fun hm => ⟨(h.mil hm).1 b (by simp), ris_zero.2 fun x hx => ?_⟩, by omega, hs⟩
  · by_cases q1 : d.me = 2
    · exact .inl q1
    · by_cases q2 : d.me = 3
      · exact .inr q2
      · have := h.non q1 q2; simp at this
  · exact (List.pairwise_append.1 (h.mil hm).2).2.2 x hx b (by simp)
theorem FineT.rev {d : Dt} {E : List Tl} (h : FineT d E) : FineT d E.reverse := by
  refine ⟨h.may, by rw [List.length_reverse]; exact h.len, fun x hx => h.ok x (List.mem_reverse.1 hx), by rw [sumT_rev]; exact h.sum, fun hm => ⟨fun x hx => (h.mil hm).1 x (List.mem_reverse.1 hx), ?_⟩, fun q1 q2 => by rw [h.non q1 q2]; rfl⟩
  rw [List.pairwise_reverse]
  exact (h.mil hm).2.imp fun q => q.symm
/-- what is told behind one another, turned about, is told -/
theorem FineT.turn {d : Dt} {A C : List Tl} {b : Tl} (h : FineT d (A ++ b :: C)) : telE d.me C.reverse b.1 b.2 = 0 := by
  have h1 := h.rev
  rw [List.reverse_append, List.reverse_cons] at h1
  exact h1.front.last
theorem thr_in {d : Dt} {E : List Tl} (h : FineT d E) (day : Int) : 0 ≤ thrV d E day ∧ thrV d E day ≤ thrW d ∧ 1 ≤ thrW d := by
  have hd := dtB_iff.1 h.may
  unfold thrV thrW
  by_cases q2 : d.me = 2
  · rw [if_pos q2, if_pos q2]
    exact ⟨thrM_nn _ _, thrM_le _ (by omega) (h.mil q2).1, by omega⟩
  · rw [if_neg q2, if_neg q2]
    by_cases q3 : d.me = 3
    · rw [if_pos q3, if_pos q3]
      have := thrS_bd day h.ok
      omega
    · rw [if_neg q3, if_neg q3]
      by_cases q1 : d.me = 1
      · rw [if_pos q1, if_pos q1]; split <;> omega
      · rw [if_neg q1, if_neg q1]; split <;> (try split) <;> omega
theorem thr_mono {d : Dt} {E : List Tl} (h : FineT d E) {a b : Int} (hab : a ≤ b) : thrV d E a ≤ thrV d E b := by
  have hd := dtB_iff.1 h.may
  have h1 := thrS_mono hab h.ok
  have h2 := thrM_mono hab h.ok
  unfold thrV
  split
  · exact h2
  · split
    · omega
    · split
      · split <;> split <;> omega
      · split <;> split <;> (try split) <;> (try split) <;> omega
theorem tel_app {m : Int} {E : List Tl} {day n : Int} (h : telE m E day n = 0) : telS m E day n = E ++ [(day, n)] := by unfold telS; rw [if_pos h]
theorem tel_not {m : Int} {E : List Tl} {day n : Int} (h : telE m E day n ≠ 0) : telS m E day n = E := by unfold telS; rw [if_neg h]
end Go.Proofs.YtklaonoekmhakaaGreat

namespace Go.Proofs.YtklaonoekmhakaaGreat

/-- a span: from a day on, by an origin, a base and a rest -/
structure Sp where
  fr : Int
  og : Int
  ba : Int
  re : Int
def cntS (day : Int) (x : Sp) : List Sp → Sp
  | [] => x
  | y :: l => cntS day (if y.fr ≤ day then y else x) l
def sp0 : Sp := ⟨0, 0, 0, 0⟩
/-- what counts at a day: the last one that begins no later, the first one where there is none -/
def cnt (L : List Sp) (day : Int) : Sp := cntS day (L.headD sp0) L
def lastS (L : List Sp) : Sp := L.getLastD sp0
/-- what is earned of a span -/
def earS (d : Dt) (E : List Tl) (x : Sp) (day : Int) : Int :=
  if thrW d = thrV d E x.og then x.ba + x.re else x.ba + x.re * max (thrV d E day - thrV d E x.og) 0 / (thrW d - thrV d E x.og)
def earV (d : Dt) (E : List Tl) (L : List Sp) (day : Int) : Int := earS d E (cnt L day) day
def altV (L : List Sp) : Int := (lastS L).ba + (lastS L).re
/-- why there is no change -/
def mayS (L : List Sp) (day : Int) : Int := if day < 0 ∨ 1000000 < day then 1 else if day < (lastS L).fr then 11 else if 50 ≤ L.length then 4 else 0
def onwE (d : Dt) (E : List Tl) (L : List Sp) (day n : Int) : Int := if mayS L day ≠ 0 then mayS L day else if n < earV d E L day then 1 else 0
def onwS (d : Dt) (E : List Tl) (L : List Sp) (day n : Int) : List Sp := if onwE d E L day n = 0 then L ++ [⟨day, day, earV d E L day, n - earV d E L day⟩] else L
def afrE (L : List Sp) (day n : Int) : Int := if mayS L day ≠ 0 then mayS L day else if n < 0 then 1 else 0
def afrS (L : List Sp) (day n : Int) : List Sp := if afrE L day n = 0 then L ++ [⟨day, 0, 0, n⟩] else L
/-- spans that may be -/
structure SpOk (x : Sp) : Prop where
  f0 : 0 ≤ x.fr
  f1 : x.fr ≤ 1000000
  og : x.og = 0 ∨ x.og = x.fr
  ba : 0 ≤ x.ba
  re : 0 ≤ x.re
  am : x.ba + x.re ≤ 9223372036854775807
structure FineS (L : List Sp) : Prop where
  hd : (L.headD sp0).fr = 0 ∧ (L.headD sp0).og = 0
  some : L ≠ []
  len : L.length ≤ 50
  ok : ∀ x ∈ L, SpOk x
  asc : L.Pairwise fun x y => x.fr ≤ y.fr

theorem cntS_app (day : Int) (x y : Sp) (L : List Sp) : cntS day x (L ++ [y]) = if y.fr ≤ day then y else cntS day x L := by
  induction L generalizing x with
  | nil => simp [cntS]
  | cons z L ih => simp only [List.cons_append, cntS]; rw [ih]
theorem cntS_mem (day : Int) (x : Sp) (L : List Sp) : cntS day x L = x ∨ cntS day x L ∈ L := by
  induction L generalizing x with
  | nil => exact .inl rfl
  | cons z L ih =>
    simp only [cntS]
    rcases ih (if z.fr ≤ day then z else x) with h | h
    · rw [h]
      split
      · exact .inr (by simp)
      · exact .inl rfl
    · exact .inr (List.mem_cons_of_mem _ h)
theorem cntS_day (day : Int) (x : Sp) (L : List Sp) (hx : x.fr ≤ day ∨ x = x) : (cntS day x L).fr ≤ day ∨ cntS day x L = x := by
  induction L generalizing x with
  | nil => exact .inr rfl
  | cons z L ih =>
    simp only [cntS]
    by_cases q : z.fr ≤ day
    · rw [if_pos q]
      rcases ih z (.inr rfl) with h | h
      · exact .inl h
      · rw [h]; exact .inl q
    · rw [if_neg q]; exact ih x hx
theorem cnt_mem {L : List Sp} (h : L ≠ []) (day : Int) : cnt L day ∈ L := by
  unfold cnt
  rcases cntS_mem day (L.headD sp0) L with q | q
  · rw [q]
    cases L with
    | nil => exact absurd rfl h
    | cons x l => simp
  · exact q
theorem headD_app {L : List Sp} (h : L ≠ []) (x : Sp) : (L ++ [x]).headD sp0 = L.headD sp0 := by
  cases L with
  | nil => exact absurd rfl h
  | cons y l => rfl
/-- one more: from its day on it counts, ahead of it what did -/
theorem cnt_app {L : List Sp} (h : L ≠ []) (x : Sp) (day : Int) : cnt (L ++ [x]) day = if x.fr ≤ day then x else cnt L day := by
  unfold cnt
  rw [headD_app h, cntS_app]
theorem lastS_app (L : List Sp) (x : Sp) : lastS (L ++ [x]) = x := by unfold lastS; simp
theorem lastS_mem {L : List Sp} (h : L ≠ []) : lastS L ∈ L := by
  unfold lastS
  rw [List.getLastD_eq_getLast?, List.getLast?_eq_some_getLast h]
  exact List.getLast_mem h
theorem split_last {L : List Sp} (h : L ≠ []) : ∃ A, L = A ++ [lastS L] := by
  refine ⟨L.dropLast, ?_⟩
  unfold lastS
  rw [List.getLastD_eq_getLast?, List.getLast?_eq_some_getLast h]
  exact (List.dropLast_concat_getLast h).symm
/-- behind the last one's day it counts -/
theorem FineS.counts {L : List Sp} (h : FineS L) {day : Int} (hd : (lastS L).fr ≤ day) : cnt L day = lastS L := by
  obtain ⟨A, hA⟩ := split_last h.some
  have e : lastS L = lastS (A ++ [lastS L]) := by rw [lastS_app]
  by_cases q : A = []
  · subst q
    rw [List.nil_append] at hA
    rw [hA]
    unfold cnt
    rw [lastS_app [] (lastS L)] at e
    simp only [List.headD_cons, cntS]
    rw [if_pos hd]
    unfold lastS; simp
  · rw [hA, cnt_app q, if_pos hd, lastS_app]
theorem FineS.le {L : List Sp} (h : FineS L) : ∀ x ∈ L, x.fr ≤ (lastS L).fr := by
  obtain ⟨A, hA⟩ := split_last h.some
  intro x hx
  have ha := h.asc
  rw [hA] at hx ha
  rcases List.mem_append.1 hx with hx | hx
  · exact (List.pairwise_append.1 ha).2.2 x hx _ (by simp)
  · obtain rfl : x = lastS L := by simpa using hx
    exact Int.le_refl _
theorem thr_zero {d : Dt} {E : List Tl} (h : FineT d E) {day : Int} (hd : day ≤ 0) : thrV d E day = 0 := by
  have h1 := dtB_iff.1 h.may
  have hm : ∀ E : List Tl, (∀ x ∈ E, 1 ≤ x.1 ∧ x.1 ≤ 1000000 ∧ 1 ≤ x.2) → thrM day E = 0 := fun E h2 => by
    induction E with
    | nil => rfl
    | cons x E ih =>
      have := h2 x (by simp)
      have := ih fun y hy => h2 y (List.mem_cons_of_mem _ hy)
      unfold thrM; rw [if_neg (by omega)]; omega
  have hs : ∀ E : List Tl, (∀ x ∈ E, 1 ≤ x.1 ∧ x.1 ≤ 1000000 ∧ 1 ≤ x.2) → thrS day E = 0 := fun E h2 => by
    induction E with
    | nil => rfl
    | cons x E ih =>
      have := h2 x (by simp)
      have := ih fun y hy => h2 y (List.mem_cons_of_mem _ hy)
      unfold thrS; rw [if_neg (by omega)]; omega
  unfold thrV
  rw [hm E h.ok, hs E h.ok]
  split
  · rfl
  · split
    · omega
    · split <;> rw [if_pos (by omega)]
/-- what is done through the origin of what counts is no more than through the day -/
theorem FineS.origin {d : Dt} {E : List Tl} {L : List Sp} (h : FineS L) (hE : FineT d E) (day : Int) : thrV d E (cnt L day).og ≤ thrV d E day := by
  have hx := h.ok _ (cnt_mem h.some day)
  by_cases q : (cnt L day).og ≤ day
  · exact thr_mono hE q
  · have hz : (cnt L day).og ≤ 0 := by
      rcases hx.og with e | e
      · omega
      · rcases cntS_day day (L.headD sp0) L (.inr rfl) with h1 | h1
        · have h1 : (cnt L day).fr ≤ day := h1
          omega
        · have h1 : cnt L day = L.headD sp0 := h1
          rw [h1, h.hd.2]; exact Int.le_refl _
    rw [thr_zero hE hz]
    exact (thr_in hE day).1
theorem pos_part {re p W : Int} (h0 : 0 ≤ re) (hp : 0 ≤ p) (hW : 1 ≤ W) (hpW : p ≤ W) : 0 ≤ re * p / W ∧ re * p / W ≤ re := by
  constructor
  · exact Int.ediv_nonneg (Int.mul_nonneg h0 hp) (by omega)
  · have h1 : re * p ≤ re * W := Int.mul_le_mul_of_nonneg_left hpW h0
    have h2 : re * p / W ≤ re * W / W := Int.ediv_le_ediv (by omega) h1
    rwa [Int.mul_ediv_cancel _ (by omega)] at h2
section
variable {d : Dt} {E : List Tl} {x : Sp}
theorem ear_in (hE : FineT d E) (hx : SpOk x) (day : Int) : x.ba ≤ earS d E x day ∧ earS d E x day ≤ x.ba + x.re := by
  have h1 := thr_in hE day
  have h2 := thr_in hE x.og
  have hr := hx.re
  unfold earS
  split
  · omega
  · have := pos_part (p := max (thrV d E day - thrV d E x.og) 0) (W := thrW d - thrV d E x.og) hr (by omega) (by omega) (by omega)
    omega
end
section
variable {d : Dt} {E : List Tl} {L : List Sp}
theorem FineS.start (a : Int) (h0 : 0 ≤ a) (h1 : a ≤ 9223372036854775807) : FineS [⟨0, 0, 0, a⟩] := by
  refine ⟨⟨rfl, rfl⟩, by simp, by simp, fun x hx => ?_, by simp⟩
  obtain rfl : x = ⟨0, 0, 0, a⟩ := by simpa using hx
  exact ⟨by simp, by simp, .inl rfl, by simp, h0, by simpa using h1⟩
theorem may_zero {day : Int} (h : mayS L day = 0) : 0 ≤ day ∧ day ≤ 1000000 ∧ (lastS L).fr ≤ day ∧ L.length < 50 := by
  unfold mayS at h
  split at h
  · cases h
  · split at h
    · cases h
    · split at h
      · cases h
      · omega
theorem FineS.app (h : FineS L) {x : Sp} (hl : L.length < 50) (hx : SpOk x) (hf : (lastS L).fr ≤ x.fr) : FineS (L ++ [x]) := by
  refine ⟨by rw [headD_app h.some]; exact h.hd, by simp, by rw [List.length_append]; simp; omega, fun y hy => ?_, ?_⟩
  · rcases List.mem_append.1 hy with hy | hy
    · exact h.ok y hy
    · obtain rfl : y = x := by simpa using hy
      exact hx
  · rw [List.pairwise_append]
    refine ⟨h.asc, by simp, fun y hy z hz => ?_⟩
    obtain rfl : z = x := by simpa using hz
    exact Int.le_trans (h.le y hy) hf
theorem earV_in (hE : FineT d E) (h : FineS L) (day : Int) : 0 ≤ earV d E L day ∧ earV d E L day ≤ 9223372036854775807 := by
  have hx := h.ok _ (cnt_mem h.some day)
  have := ear_in hE hx day
  have h1 := hx.ba
  have h2 := hx.am
  unfold earV; omega
theorem onw_zero {day n : Int} (h : onwE d E L day n = 0) : mayS L day = 0 ∧ earV d E L day ≤ n := by
  unfold onwE at h
  split at h
  · rename_i q; exact absurd h q
  · rename_i q
    split at h
    · cases h
    · exact ⟨by simpa using q, by omega⟩
theorem afr_zero {day n : Int} (h : afrE L day n = 0) : mayS L day = 0 ∧ 0 ≤ n := by
  unfold afrE at h
  split at h
  · rename_i q; exact absurd h q
  · rename_i q
    split at h
    · cases h
    · exact ⟨by simpa using q, by omega⟩
theorem FineS.onw (h : FineS L) (hE : FineT d E) {day n : Int} (hn : n ≤ 9223372036854775807) : FineS (onwS d E L day n) := by
  unfold onwS
  split
  · rename_i q
    obtain ⟨q1, q2⟩ := onw_zero q
    have hm := may_zero q1
    have he := earV_in hE h day
    exact h.app hm.2.2.2 ⟨hm.1, hm.2.1, .inr rfl, he.1, by show 0 ≤ n - earV d E L day; omega, by show earV d E L day + (n - earV d E L day) ≤ 9223372036854775807; omega⟩ hm.2.2.1
  · exact h
theorem FineS.afr (h : FineS L) {day n : Int} (hn : n ≤ 9223372036854775807) : FineS (afrS L day n) := by
  unfold afrS
  split
  · rename_i q
    obtain ⟨q1, q2⟩ := afr_zero q
    have hm := may_zero q1
    exact h.app hm.2.2.2 ⟨hm.1, hm.2.1, .inl rfl, by simp, q2, by simpa using hn⟩ hm.2.2.1
  · exact h
end
end Go.Proofs.YtklaonoekmhakaaGreat
