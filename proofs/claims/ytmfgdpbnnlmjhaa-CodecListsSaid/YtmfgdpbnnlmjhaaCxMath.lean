/- Numbers as bytes, plainly: folded and back, by 7 bits a byte, one way alone. -/
import Derived.Test.YtmfgdpbnnlmjhaaRcBk
namespace Go.Proofs.Ytmfgdpbnnlmjhaa

/-- a number by one without a sign -/
def fold (n : Int) : Nat := if 0 ≤ n then (2 * n).toNat else (-2 * n - 1).toNat
def unf (u : Nat) : Int := if u % 2 = 1 then -((u / 2 : Nat) : Int) - 1 else ((u / 2 : Nat) : Int)
theorem unf_fold (n : Int) : unf (fold n) = n := by
  unfold unf fold
  split <;> split <;> omega
theorem fold_unf (u : Nat) : fold (unf u) = u := by
  unfold unf fold
  split <;> split <;> omega
theorem fold_lt {n : Int} (h : Am n) : fold n < 18446744073709551616 := by
  unfold fold Am at *
  split <;> omega
theorem unf_am {u : Nat} (h : u < 18446744073709551616) : Am (unf u) := by
  unfold unf Am
  split <;> omega

/-- its bytes -/
def enc (u : Nat) : List UInt8 := if u < 128 then [UInt8.ofNat u] else UInt8.ofNat (u % 128 + 128) :: enc (u / 128)
termination_by u
decreasing_by omega
theorem enc_small {u : Nat} (h : u < 128) : enc u = [UInt8.ofNat u] := by rw [enc, if_pos h]
theorem enc_more {u : Nat} (h : ¬ u < 128) : enc u = UInt8.ofNat (u % 128 + 128) :: enc (u / 128) := by rw [enc, if_neg h]
/-- what bytes tell -/
def val : List UInt8 → Nat
  | [] => 0
  | c :: l => c.toNat % 128 + 128 * val l
theorem byte_of {k : Nat} (h : k < 256) : (UInt8.ofNat k).toNat = k := by rw [UInt8.toNat_ofNat']; omega
theorem val_enc (u : Nat) : val (enc u) = u := by
  induction u using Nat.strongRecOn with
  | ind u ih =>
    by_cases h : u < 128
    · rw [enc_small h]; simp only [val]; rw [byte_of (by omega)]; omega
    · rw [enc_more h]; simp only [val]; rw [ih _ (by omega), byte_of (by omega)]; omega
theorem enc_inj {a b : Nat} (h : enc a = enc b) : a = b := by rw [← val_enc a, h, val_enc]
theorem enc_pos (u : Nat) : 0 < (enc u).length := by
  by_cases h : u < 128
  · rw [enc_small h]; simp
  · rw [enc_more h]; simp
theorem enc_len (k : Nat) : ∀ u, u < 128 ^ (k + 1) → (enc u).length ≤ k + 1 := by
  induction k with
  | zero => intro u h; rw [enc_small (by simpa using h)]; simp
  | succ k ih =>
    intro u h
    by_cases q : u < 128
    · rw [enc_small q]; simp
    · rw [enc_more q]
      have := ih (u / 128) (by rw [Nat.pow_succ] at h; omega)
      simp; omega
theorem enc_ten {u : Nat} (h : u < 18446744073709551616) : (enc u).length ≤ 10 := enc_len 9 u (Nat.lt_of_lt_of_le h (by decide))
theorem enc_mono {a b : Nat} (h : a ≤ b) : (enc a).length ≤ (enc b).length := by
  induction b using Nat.strongRecOn generalizing a with
  | ind b ih =>
    by_cases q : a < 128
    · rw [enc_small q]; exact enc_pos b
    · rw [enc_more q, enc_more (show ¬ b < 128 by omega)]
      have := ih (b / 128) (by omega) (a := a / 128) (by omega)
      simp; omega
/-- a last byte below 128, the others not -/
def Shut (l : List UInt8) : Prop := ∃ h c, l = h ++ [c] ∧ (∀ x ∈ h, 128 ≤ x.toNat) ∧ c.toNat < 128
theorem enc_shut (u : Nat) : Shut (enc u) := by
  induction u using Nat.strongRecOn with
  | ind u ih =>
    by_cases h : u < 128
    · exact ⟨[], UInt8.ofNat u, by rw [enc_small h]; rfl, by simp, by rw [byte_of (by omega)]; exact h⟩
    · obtain ⟨p, c, e, hp, hc⟩ := ih _ (show u / 128 < u by omega)
      refine ⟨UInt8.ofNat (u % 128 + 128) :: p, c, by rw [enc_more h, e]; rfl, ?_, hc⟩
      intro x hx
      rcases List.mem_cons.1 hx with rfl | hx
      · rw [byte_of (by omega)]; omega
      · exact hp x hx
theorem shut_one : ∀ (a b : List UInt8) (r s : List UInt8), Shut a → Shut b → a ++ r = b ++ s → a = b := by
  have key : ∀ (p q : List UInt8) (c d : UInt8) (r s : List UInt8), (∀ x ∈ p, 128 ≤ x.toNat) → (∀ x ∈ q, 128 ≤ x.toNat) → c.toNat < 128 → d.toNat < 128 → p ++ c :: r = q ++ d :: s → p = q ∧ c = d := by
    intro p
    induction p with
    | nil =>
      intro q c d r s _ hq hc hd e
      cases q with
      | nil => simp at e; exact ⟨rfl, e.1⟩
      | cons y q => simp at e; have := hq y (by simp); rw [← e.1] at this; omega
    | cons x p ih =>
      intro q c d r s hp hq hc hd e
      cases q with
      | nil => simp at e; have := hp x (by simp); rw [e.1] at this; omega
      | cons y q =>
        simp at e
        obtain ⟨a, b⟩ := ih q c d r s (fun z hz => hp z (by simp [hz])) (fun z hz => hq z (by simp [hz])) hc hd e.2
        exact ⟨by rw [e.1, a], b⟩
  rintro a b r s ⟨p, c, rfl, hp, hc⟩ ⟨q, d, rfl, hq, hd⟩ e
  obtain ⟨x, y⟩ := key p q c d r s hp hq hc hd (by simpa using e)
  rw [x, y]
theorem enc_first {a b : Nat} {r s : List UInt8} (h : enc a ++ r = enc b ++ s) : a = b ∧ r = s := by
  have := shut_one _ _ r s (enc_shut a) (enc_shut b) h
  have e := enc_inj this
  subst e
  exact ⟨rfl, List.append_cancel_left h⟩
/-- bytes of which the last one is below 128 and, behind others, not 0, are those of what they tell -/
theorem enc_of (h : List UInt8) (c : UInt8) (hp : ∀ x ∈ h, 128 ≤ x.toNat) (hc : c.toNat < 128) (h0 : h ≠ [] → c.toNat ≠ 0) : enc (val (h ++ [c])) = h ++ [c] := by
  induction h with
  | nil =>
    have e : val ([] ++ [c]) = c.toNat := by simp [val]; omega
    rw [e, enc_small hc]
    simp
  | cons x h ih =>
    have hx := hp x (by simp)
    have hx6 := x.toNat_lt
    have hv : 0 < val (h ++ [c]) := by
      have hc0 := h0 (by simp)
      clear ih hp h0
      induction h with
      | nil => simp [val]; omega
      | cons y h ih2 => simp only [List.cons_append, val]; omega
    have e : val ((x :: h) ++ [c]) = x.toNat % 128 + 128 * val (h ++ [c]) := rfl
    have e1 : (x.toNat % 128 + 128 * val (h ++ [c])) / 128 = val (h ++ [c]) := by omega
    have e2 : (x.toNat % 128 + 128 * val (h ++ [c])) % 128 + 128 = x.toNat := by omega
    rw [e, enc_more (by omega), e1, e2, ih (fun z hz => hp z (by simp [hz])) (fun _ => h0 (by simp))]
    simp
/-- ..: the last byte of several is not 0 -/
theorem enc_last {u : Nat} {h : List UInt8} {c : UInt8} (e : enc u = h ++ [c]) (hne : h ≠ []) : c.toNat ≠ 0 := by
  induction u using Nat.strongRecOn generalizing h with
  | ind u ih =>
    by_cases q : u < 128
    · rw [enc_small q] at e
      cases h with
      | nil => exact absurd rfl hne
      | cons y h => simp at e
    · rw [enc_more q] at e
      cases h with
      | nil => exact absurd rfl hne
      | cons y h =>
        have e2 : enc (u / 128) = h ++ [c] := by simp at e; exact e.2
        by_cases g : h = []
        · subst g
          by_cases q2 : u / 128 < 128
          · rw [enc_small q2] at e2
            simp at e2
            rw [← e2, byte_of (by omega)]; omega
          · rw [enc_more q2] at e2
            have := enc_pos (u / 128 / 128)
            simp at e2
            rw [e2.2] at this; simp at this
        · exact ih _ (by omega) e2 g
theorem val_snoc (l : List UInt8) (c : UInt8) : val (l ++ [c]) = val l + 128 ^ l.length * (c.toNat % 128) := by
  induction l with
  | nil => simp [val]
  | cons x l ih => simp only [List.cons_append, val, ih, List.length_cons, Nat.pow_succ, Nat.mul_add]; rw [Nat.mul_comm (128 ^ l.length) 128, Nat.mul_assoc]; omega
theorem val_lt (l : List UInt8) : val l < 128 ^ l.length := by
  induction l with
  | nil => simp [val]
  | cons x l ih => simp only [val, List.length_cons, Nat.pow_succ]; omega

/-- bytes begin with the number n's, or with none -/
def Tk (l : List UInt8) : Option Int → Prop
  | some n => Am n ∧ ∃ r, l = enc (fold n) ++ r
  | none => ∀ n r, Am n → l ≠ enc (fold n) ++ r
theorem Tk.one {l : List UInt8} {a b : Option Int} (h : Tk l a) (k : Tk l b) : a = b := by
  cases a with
  | none =>
    cases b with
    | none => rfl
    | some n => obtain ⟨hn, r, e⟩ := k; exact absurd e (h n r hn)
  | some m =>
    cases b with
    | none => obtain ⟨hn, r, e⟩ := h; exact absurd e (k m r hn)
    | some n =>
      obtain ⟨_, r, e⟩ := h
      obtain ⟨_, s, f⟩ := k
      rw [e] at f
      rw [← unf_fold m, (enc_first f).1, unf_fold]
theorem tk_ex (l : List UInt8) : ∃ a, Tk l a := by
  by_cases h : ∃ n r, Am n ∧ l = enc (fold n) ++ r
  · obtain ⟨n, r, a, b⟩ := h; exact ⟨some n, a, r, b⟩
  · exact ⟨none, fun n r a b => h ⟨n, r, a, b⟩⟩
/-- how many bytes -/
def nl (n : Int) : Nat := (enc (fold n)).length
theorem nl_ten {n : Int} (h : Am n) : nl n ≤ 10 := enc_ten (fold_lt h)
theorem nl_pos (n : Int) : 0 < nl n := enc_pos _
/-- where the first byte below 128 is the last one of them: i others ahead -/
theorem tk_hit (l : List UInt8) (i : Nat) (c : UInt8) (hc : l[i]? = some c) (hp : ∀ x ∈ l.take i, 128 ≤ x.toNat) (h1 : c.toNat < 128) (hw : 0 < i → c.toNat ≠ 0) (hb : val (l.take (i + 1)) < 18446744073709551616) :
    Tk l (some (unf (val (l.take (i + 1))))) ∧ nl (unf (val (l.take (i + 1)))) = i + 1 := by
  have hi : i < l.length := by
    rcases Nat.lt_or_ge i l.length with q | q
    · exact q
    · rw [List.getElem?_eq_none q] at hc; cases hc
  have e : l.take (i + 1) = l.take i ++ [c] := by rw [List.take_add_one, hc]; rfl
  have f : enc (val (l.take (i + 1))) = l.take (i + 1) := by
    rw [e]
    exact enc_of _ _ hp h1 (fun z => hw (Nat.pos_of_ne_zero (fun q => z (by rw [q]; rfl))))
  refine ⟨⟨unf_am hb, l.drop (i + 1), ?_⟩, ?_⟩
  · rw [fold_unf, f, List.take_append_drop]
  · unfold nl; rw [fold_unf, f, List.length_take]; omega
theorem tk_miss (l : List UInt8) (i : Nat) (c : UInt8) (hc : l[i]? = some c) (hp : ∀ x ∈ l.take i, 128 ≤ x.toNat) (h1 : c.toNat < 128) (hw : (0 < i ∧ c.toNat = 0) ∨ 18446744073709551616 ≤ val (l.take (i + 1))) : Tk l none := by
  intro n r hn e
  have hi : i < l.length := by
    rcases Nat.lt_or_ge i l.length with q | q
    · exact q
    · rw [List.getElem?_eq_none q] at hc; cases hc
  have et : l.take (i + 1) = l.take i ++ [c] := by rw [List.take_add_one, hc]; rfl
  have s1 : Shut (l.take (i + 1)) := ⟨l.take i, c, et, hp, h1⟩
  have := shut_one _ _ (l.drop (i + 1)) r s1 (enc_shut (fold n)) (by rw [List.take_append_drop]; exact e)
  rcases hw with ⟨a, b⟩ | a
  · rw [et] at this
    refine enc_last this.symm ?_ b
    intro z
    have := congrArg List.length z
    rw [List.length_take, List.length_nil] at this
    omega
  · have := congrArg val this
    rw [val_enc] at this
    have := fold_lt hn
    omega
theorem tk_none (l : List UInt8) (k : Nat) (hp : ∀ x ∈ l.take k, 128 ≤ x.toNat) (hk : l.length ≤ k ∨ 10 ≤ k) : Tk l none := by
  intro n r hn e
  obtain ⟨p, c, f, _, hc⟩ := enc_shut (fold n)
  have h10 := enc_ten (fold_lt hn)
  have hl : p.length + 1 ≤ k := by
    have := congrArg List.length f
    rw [List.length_append, List.length_singleton] at this
    have := congrArg List.length e
    rw [List.length_append] at this
    omega
  have hm : c ∈ l.take k := by
    rw [e, f, List.take_append, List.take_of_length_le (by simp; omega)]
    simp
  have := hp c hm
  omega
end Go.Proofs.Ytmfgdpbnnlmjhaa
