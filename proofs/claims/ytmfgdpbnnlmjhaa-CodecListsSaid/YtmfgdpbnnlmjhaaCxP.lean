/- Commands and lists as bytes, plainly: what bytes are those of. -/
import Derived.Test.YtmfgdpbnnlmjhaaCxD
namespace Go.Proofs.Ytmfgdpbnnlmjhaa

theorem enc_fold_first {a b : Int} {r s : List UInt8} (h : enc (fold a) ++ r = enc (fold b) ++ s) : a = b ∧ r = s := by
  obtain ⟨h1, h2⟩ := enc_first h
  exact ⟨by rw [← unf_fold a, h1, unf_fold], h2⟩
theorem flat_more : ∀ (xs ys : List Int) (r : List UInt8), flat ys = flat xs ++ r → xs.length < ys.length → ∃ y q, y ∈ ys ∧ r = enc (fold y) ++ q := by
  intro xs
  induction xs with
  | nil =>
    intro ys r h hl
    cases ys with
    | nil => simp at hl
    | cons y ys => exact ⟨y, flat ys, by simp, by simpa [flat] using h.symm⟩
  | cons x xs ih =>
    intro ys r h hl
    cases ys with
    | nil => simp at hl
    | cons y ys =>
      have h2 : enc (fold y) ++ flat ys = enc (fold x) ++ (flat xs ++ r) := by simpa [flat] using h
      obtain ⟨z, q, hz, hr⟩ := ih ys r (enc_fold_first h2).2 (by simpa using hl)
      exact ⟨z, q, by simp [hz], hr⟩
theorem flat_end : ∀ (xs ys : List Int) (r : List UInt8), flat ys = flat xs ++ r → ys.length = xs.length → ys = xs ∧ r = [] := by
  intro xs
  induction xs with
  | nil =>
    intro ys r h hl
    have : ys = [] := List.eq_nil_of_length_eq_zero hl
    subst this
    exact ⟨rfl, by simpa [flat] using h.symm⟩
  | cons x xs ih =>
    intro ys r h hl
    cases ys with
    | nil => simp at hl
    | cons y ys =>
      have h2 : enc (fold y) ++ flat ys = enc (fold x) ++ (flat xs ++ r) := by simpa [flat] using h
      obtain ⟨h3, h4⟩ := enc_fold_first h2
      obtain ⟨h5, h6⟩ := ih ys r h4 (by simpa using hl)
      exact ⟨by rw [h3, h5], h6⟩

/-- bytes are those of a command, or of none -/
def Rd (l : List UInt8) : Option (Nat × List Int) → Prop
  | some p => p.1 ≤ 255 ∧ p.2.length ≤ 64 ∧ (∀ x ∈ p.2, Am x) ∧ l = putL p.1 p.2
  | none => ∀ (k : Nat) (xs : List Int), k ≤ 255 → xs.length ≤ 64 → (∀ x ∈ xs, Am x) → l ≠ putL k xs
theorem putL_inj {k j : Nat} {xs ys : List Int} (hk : k ≤ 255) (hj : j ≤ 255) (hx : xs.length ≤ 64) (hy : ys.length ≤ 64) (h : putL k xs = putL j ys) : k = j ∧ xs = ys := by
  unfold putL at h
  injection h with h1 h2
  injection h2 with h2 h3
  have e1 := congrArg UInt8.toNat h1
  have e2 := congrArg UInt8.toNat h2
  simp only [Int.toNat_natCast] at e1
  rw [byte_of (by omega), byte_of (by omega)] at e1 e2
  exact ⟨e1, (flat_end ys xs [] (by simpa using h3) e2).1⟩
theorem Rd.one {l : List UInt8} {a b : Option (Nat × List Int)} (h : Rd l a) (k : Rd l b) : a = b := by
  cases a with
  | none =>
    cases b with
    | none => rfl
    | some p => exact absurd k.2.2.2 (h p.1 p.2 k.1 k.2.1 k.2.2.1)
  | some p =>
    cases b with
    | none => exact absurd h.2.2.2 (k p.1 p.2 h.1 h.2.1 h.2.2.1)
    | some q =>
      obtain ⟨e1, e2⟩ := putL_inj h.1 k.1 h.2.1 k.2.1 (h.2.2.2.symm.trans k.2.2.2)
      cases p; cases q
      simp only at e1 e2
      rw [e1, e2]
theorem rd_short {l : List UInt8} (h : l.length < 2) : Rd l none := by
  intro k xs _ _ _ e
  rw [e] at h
  simp [putL] at h
  omega
/-- k b :: m b :: the rest -/
theorem rd_many {a b : UInt8} {l : List UInt8} (h : 64 < b.toNat) : Rd (a :: b :: l) none := by
  intro k xs _ hx _ e
  unfold putL at e
  injection e with e1 e2
  injection e2 with e2 e3
  rw [e2, byte_of (by omega)] at h
  omega
theorem rd_miss {a b : UInt8} {xs : List Int} {r : List UInt8} (hl : xs.length < b.toNat) (ht : Tk r none) : Rd (a :: b :: (flat xs ++ r)) none := by
  intro k ys _ hy hm e
  unfold putL at e
  injection e with e1 e2
  injection e2 with e2 e3
  have : b.toNat = ys.length := by rw [e2, byte_of (by omega)]
  obtain ⟨y, q, hy1, hq⟩ := flat_more xs ys r e3.symm (by omega)
  exact ht y q (hm y hy1) hq
theorem rd_behind {a b : UInt8} {xs : List Int} {r : List UInt8} (hl : xs.length = b.toNat) (hr : r ≠ []) : Rd (a :: b :: (flat xs ++ r)) none := by
  intro k ys _ hy hm e
  unfold putL at e
  injection e with e1 e2
  injection e2 with e2 e3
  have : b.toNat = ys.length := by rw [e2, byte_of (by omega)]
  exact hr (flat_end xs ys r e3.symm (by omega)).2
theorem rd_hit {a b : UInt8} {xs : List Int} (hl : xs.length = b.toNat) (h64 : b.toNat ≤ 64) (hm : ∀ x ∈ xs, Am x) : Rd (a :: b :: flat xs) (some (a.toNat, xs)) := by
  have := a.toNat_lt
  refine ⟨by show a.toNat ≤ 255; omega, by show xs.length ≤ 64; omega, hm, ?_⟩
  unfold putL
  simp only [Int.toNat_natCast, hl, UInt8.ofNat_toNat]

/-- a text, behind how many bytes it has -/
def itm (t : List UInt8) : List UInt8 := enc (fold (t.length : Nat)) ++ t
def flatL : List (List UInt8) → List UInt8
  | [] => []
  | t :: ts => itm t ++ flatL ts
/-- texts as one -/
def lstL (ts : List (List UInt8)) : List UInt8 := enc (fold (ts.length : Nat)) ++ flatL ts
/-- how many bytes all have -/
def tot (ts : List (List UInt8)) : Nat := (ts.map List.length).sum
def LsOk (ts : List (List UInt8)) : Prop := ts.length ≤ 1000 ∧ tot ts ≤ 1048576
theorem flatL_app (xs ys : List (List UInt8)) : flatL (xs ++ ys) = flatL xs ++ flatL ys := by
  induction xs with
  | nil => rfl
  | cons x xs ih => simp [flatL, ih]
theorem flatL_one (t : List UInt8) : flatL [t] = itm t := by simp [flatL]
theorem itm_first {s t : List UInt8} {r q : List UInt8} (h : itm s ++ r = itm t ++ q) : s = t ∧ r = q := by
  unfold itm at h
  rw [List.append_assoc, List.append_assoc] at h
  obtain ⟨h1, h2⟩ := enc_fold_first h
  exact List.append_inj h2 (by omega)
theorem flatL_more : ∀ (xs ys : List (List UInt8)) (r : List UInt8), flatL ys = flatL xs ++ r → xs.length < ys.length → ∃ y q, y ∈ ys ∧ r = itm y ++ q := by
  intro xs
  induction xs with
  | nil =>
    intro ys r h hl
    cases ys with
    | nil => simp at hl
    | cons y ys => exact ⟨y, flatL ys, by simp, by simpa [flatL] using h.symm⟩
  | cons x xs ih =>
    intro ys r h hl
    cases ys with
    | nil => simp at hl
    | cons y ys =>
      have h2 : itm y ++ flatL ys = itm x ++ (flatL xs ++ r) := by simpa [flatL] using h
      obtain ⟨z, q, hz, hr⟩ := ih ys r (itm_first h2).2 (by simpa using hl)
      exact ⟨z, q, by simp [hz], hr⟩
theorem flatL_end : ∀ (xs ys : List (List UInt8)) (r : List UInt8), flatL ys = flatL xs ++ r → ys.length = xs.length → ys = xs ∧ r = [] := by
  intro xs
  induction xs with
  | nil =>
    intro ys r h hl
    have : ys = [] := List.eq_nil_of_length_eq_zero hl
    subst this
    exact ⟨rfl, by simpa [flatL] using h.symm⟩
  | cons x xs ih =>
    intro ys r h hl
    cases ys with
    | nil => simp at hl
    | cons y ys =>
      have h2 : itm y ++ flatL ys = itm x ++ (flatL xs ++ r) := by simpa [flatL] using h
      obtain ⟨h3, h4⟩ := itm_first h2
      obtain ⟨h5, h6⟩ := ih ys r h4 (by simpa using hl)
      exact ⟨by rw [h3, h5], h6⟩
theorem tot_app (xs ys : List (List UInt8)) : tot (xs ++ ys) = tot xs + tot ys := by simp [tot]
theorem tot_le (ts : List (List UInt8)) : tot ts ≤ (flatL ts).length := by
  induction ts with
  | nil => simp [tot]
  | cons t ts ih =>
    have : tot (t :: ts) = t.length + tot ts := by simp [tot]
    rw [this]
    simp only [flatL, itm, List.length_append]
    omega
/-- bytes are those of texts, or of none -/
def Pt (l : List UInt8) : Option (List (List UInt8)) → Prop
  | some ts => LsOk ts ∧ l = lstL ts
  | none => ∀ ts, LsOk ts → l ≠ lstL ts
theorem lstL_inj {xs ys : List (List UInt8)} (h : lstL xs = lstL ys) : xs = ys := by
  unfold lstL at h
  obtain ⟨h1, h2⟩ := enc_fold_first h
  exact (flatL_end ys xs [] (by simpa using h2) (by omega)).1
theorem Pt.one {l : List UInt8} {a b : Option (List (List UInt8))} (h : Pt l a) (k : Pt l b) : a = b := by
  cases a with
  | none =>
    cases b with
    | none => rfl
    | some p => exact absurd k.2 (h p k.1)
  | some p =>
    cases b with
    | none => exact absurd h.2 (k p h.1)
    | some q => rw [lstL_inj (h.2.symm.trans k.2)]
theorem am_nat {n : Nat} (h : n ≤ 1000000000000) : Am (n : Int) := by unfold Am; omega
theorem pt_first {l : List UInt8} (h : Tk l none) : Pt l none := by
  intro ts hok e
  exact h _ _ (am_nat (n := ts.length) (by have := hok.1; omega)) e
theorem pt_many {l r : List UInt8} {n : Int} (h : l = enc (fold n) ++ r) (hn : n < 0 ∨ 1000 < n) : Pt l none := by
  intro ts hok e
  rw [h] at e
  have := (enc_fold_first e).1
  have := hok.1
  omega
/-- bytes begin with a text behind its length, or don't -/
def Pr (r : List UInt8) : Option (List UInt8) → Prop
  | some t => ∃ q, r = itm t ++ q
  | none => ∀ t q, r ≠ itm t ++ q
theorem pt_miss {m : Nat} {xs : List (List UInt8)} {r : List UInt8} (hl : xs.length < m) (h : Pr r none) : Pt (enc (fold (m : Nat)) ++ (flatL xs ++ r)) none := by
  intro ts hok e
  obtain ⟨h1, h2⟩ := enc_fold_first e
  obtain ⟨y, q, _, hq⟩ := flatL_more xs ts r h2.symm (by omega)
  exact h y q hq
theorem pt_behind {m : Nat} {xs : List (List UInt8)} {r : List UInt8} (hl : xs.length = m) (h : r ≠ []) : Pt (enc (fold (m : Nat)) ++ (flatL xs ++ r)) none := by
  intro ts hok e
  obtain ⟨h1, h2⟩ := enc_fold_first e
  exact h (flatL_end xs ts r h2.symm (by omega)).2
theorem pt_great {xs : List (List UInt8)} (h : 1048576 < tot xs) : Pt (lstL xs) none := by
  intro ts hok e
  have := lstL_inj e
  subst this
  have := hok.2
  omega
theorem pr_take_none {r : List UInt8} (h : Tk r none) (hl : r.length ≤ 1000000000) : Pr r none := by
  intro t q e
  have : t.length ≤ r.length := by rw [e, itm]; simp; omega
  refine h (t.length : Nat) (t ++ q) (am_nat (by omega)) ?_
  rw [e, itm, List.append_assoc]
theorem pr_long {r q : List UInt8} {n : Int} (h : r = enc (fold n) ++ q) (hn : n < 0 ∨ (q.length : Int) < n) : Pr r none := by
  intro t p e
  rw [h, itm, List.append_assoc] at e
  obtain ⟨h1, h2⟩ := enc_fold_first e
  have := congrArg List.length h2
  rw [List.length_append] at this
  omega
theorem pr_hit {r q : List UInt8} {n : Nat} (h : r = enc (fold (n : Nat)) ++ q) (hn : n ≤ q.length) : r = itm (q.take n) ++ q.drop n := by
  have : (q.take n).length = n := by rw [List.length_take]; omega
  rw [h, itm, this, List.append_assoc, List.take_append_drop]
end Go.Proofs.Ytmfgdpbnnlmjhaa
