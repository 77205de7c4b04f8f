/- Contracts: portion.checkMarks, portion.Steps, and the reference's Same. -/
import Derived.Test.YtbcdfkcgcaifjaaPoOut
namespace Go.Proofs.Ytbcdfkcgcaifjaa
open Go.RowKit

/-- marks that rise from 0 to a whole, up to a place -/
def RiseTo (f : Nat → Int) (whole : Int) (k : Nat) : Prop := ∀ t, t < k → (if t = 0 then 0 else f (t - 1)) ≤ f t ∧ f t ≤ whole
/-- the mark ahead; 0 of the first one -/
def aheadV (f : Nat → Int) (k : Nat) : Int := if k = 0 then 0 else f (k - 1)
theorem rise_step {f : Nat → Int} {whole : Int} {k : Nat} (h : RiseTo f whole k) (h1 : aheadV f k ≤ f k) (h2 : f k ≤ whole) : RiseTo f whole (k + 1) := by
  intro t ht
  by_cases e : t = k
  · subst e; exact ⟨h1, h2⟩
  · exact h t (by omega)
theorem RiseTo.pos {f : Nat → Int} {whole : Int} {n : Nat} (h : RiseTo f whole n) : ∀ t, t < n → 0 ≤ f t := by
  intro t
  induction t with
  | zero => intro ht; have := (h 0 ht).1; simpa using this
  | succ t ih => intro ht; have a := ih (by omega); have := (h (t + 1) ht).1; rw [if_neg (by omega)] at this; simp only [Nat.add_sub_cancel] at this; omega

def stepP (total : Int) (f : Nat → Int) (whole : Int) (k : Nat) : Int := if k = 0 then 0 else total * f (k - 1) / whole
def stepV (total : Int) (f : Nat → Int) (whole : Int) (k : Nat) : Int := stepP total f whole (k + 1) - stepP total f whole k
theorem stepP_succ (total : Int) (f : Nat → Int) (whole : Int) (k : Nat) : stepP total f whole (k + 1) = total * f k / whole := by unfold stepP; rw [if_neg (by omega), Nat.add_sub_cancel]
theorem div_mono {a b w : Int} (hw : 1 ≤ w) (h : a ≤ b) : a / w ≤ b / w := Int.ediv_le_ediv (by omega) h
/-- a part of a mark up to the whole is from 0 to the total -/
theorem part_within {total m whole : Int} (hw : 1 ≤ whole) (h0 : 0 ≤ m) (h1 : m ≤ whole) : (0 ≤ total → 0 ≤ total * m / whole ∧ total * m / whole ≤ total) ∧ (total < 0 → total ≤ total * m / whole ∧ total * m / whole ≤ 0) := by
  have e : total * whole / whole = total := Int.mul_ediv_cancel _ (by omega)
  constructor
  · intro ht
    have a := div_mono hw (Int.mul_nonneg ht h0)
    have b := div_mono hw (Int.mul_le_mul_of_nonneg_left h1 ht)
    rw [e] at b; simp only [Int.zero_ediv] at a; exact ⟨a, b⟩
  · intro ht
    have q1 : total * whole ≤ total * m := by
      have := Int.mul_le_mul_of_nonneg_left h1 (show 0 ≤ -total by omega)
      rw [Int.neg_mul, Int.neg_mul] at this; omega
    have q2 : total * m ≤ 0 := by
      have := Int.mul_nonneg (show 0 ≤ -total by omega) h0
      rw [Int.neg_mul] at this; omega
    have a := div_mono hw q1
    have b := div_mono hw q2
    rw [e] at a; simp only [Int.zero_ediv] at b; exact ⟨a, b⟩
theorem part_rises {total m m' whole : Int} (hw : 1 ≤ whole) (h : m ≤ m') : (0 ≤ total → total * m / whole ≤ total * m' / whole) ∧ (total < 0 → total * m' / whole ≤ total * m / whole) := by
  constructor
  · intro ht; exact div_mono hw (Int.mul_le_mul_of_nonneg_left h ht)
  · intro ht
    apply div_mono hw
    have := Int.mul_le_mul_of_nonneg_left h (show 0 ≤ -total by omega)
    rw [Int.neg_mul, Int.neg_mul] at this; omega
theorem am_within {total x : Int} (h : (0 ≤ total → 0 ≤ x ∧ x ≤ total) ∧ (total < 0 → total ≤ x ∧ x ≤ 0)) (t1 : -9223372036854775808 ≤ total) (t2 : total ≤ 9223372036854775807) : Am x := by
  unfold Am
  by_cases q : 0 ≤ total
  · have := h.1 q; omega
  · have := h.2 (by omega); omega
variable {total whole : Int} {f : Nat → Int} {n : Nat}
theorem stepP_in (hw : 1 ≤ whole) (h : RiseTo f whole n) {k : Nat} (hk : k ≤ n) : (0 ≤ total → 0 ≤ stepP total f whole k ∧ stepP total f whole k ≤ total) ∧ (total < 0 → total ≤ stepP total f whole k ∧ stepP total f whole k ≤ 0) := by
  unfold stepP
  by_cases e : k = 0
  · rw [if_pos e]; omega
  · rw [if_neg e]; exact part_within hw (h.pos _ (by omega)) (h _ (by omega)).2
theorem stepV_in (hw : 1 ≤ whole) (h : RiseTo f whole n) {k : Nat} (hk : k < n) : (0 ≤ total → 0 ≤ stepV total f whole k ∧ stepV total f whole k ≤ total) ∧ (total < 0 → total ≤ stepV total f whole k ∧ stepV total f whole k ≤ 0) := by
  have a := stepP_in (total := total) hw h (show k ≤ n by omega)
  have b := stepP_in (total := total) hw h (show k + 1 ≤ n by omega)
  have c : (0 ≤ total → stepP total f whole k ≤ stepP total f whole (k + 1)) ∧ (total < 0 → stepP total f whole (k + 1) ≤ stepP total f whole k) := by
    by_cases e : k = 0
    · subst e
      have z : stepP total f whole 0 = 0 := by simp [stepP]
      rw [z]; exact ⟨fun q => (b.1 q).1, fun q => (b.2 q).2⟩
    · have q := part_rises (total := total) hw (m := f (k - 1)) (m' := f k) (by have := (h k hk).1; rwa [if_neg e] at this)
      rw [stepP_succ]; unfold stepP; rw [if_neg e]; exact q
  unfold stepV
  constructor
  · intro q; have := a.1 q; have := b.1 q; have := c.1 q; omega
  · intro q; have := a.2 q; have := b.2 q; have := c.2 q; omega
theorem stepV_sum (total : Int) (f : Nat → Int) (whole : Int) (k : Nat) : sumN (stepV total f whole) k = stepP total f whole k := by
  induction k with
  | zero => simp [sumN, stepP]
  | succ k ih => simp only [sumN, ih, stepV]; omega

/-- why there are no steps; 0: there are -/
noncomputable def stepE (f : Nat → Int) (whole : Int) (n : Nat) : Int := by classical exact if 64 < n then 4 else if whole < 1 ∨ ¬ RiseTo f whole n then 1 else 0

set_option maxHeartbeats 400000 in
theorem same_quiet (f g : Nat → Int) (a b : Option Addr) (n ca cb : Nat) (w : World) (hn : n ≤ 1000) (hA : Arg w a n f) (hB : Arg w b n g) (h : ∀ t, t < n → f t = g t) :
    Calls Try.prog 16 #[.slice a n ca, .slice b n cb] w fun e w' => e = .returned (.bool true) ∧ ∃ q, w' = w.drewN q := by
  have HA := Lib.hid hA
  have HB := Lib.hid hB
  have HE := Lib.hid h
  clear hA hB h
  go_enter Try.func16, Try.ntmps16
  go_wp2_with fail
  go_loopw [5] (fun vi wr => ∃ k : Nat, k ≤ n ∧ vi = .int .i64 k ∧ ∃ q, wr = w.drewN q) (fun vi _ => n - (intOf vi).toNat)
  case atStart => exact ⟨0, Nat.zero_le _, rfl, 0, rfl⟩
  case round =>
    obtain ⟨k, hk, rfl, hQ⟩ := hrel
    have HQ := Lib.hid hQ
    have HW : Hid (Below w.heap.size w wr) := by obtain ⟨q, rfl⟩ := hQ; exact ⟨rfl, rfl, rfl, Nat.le_refl _, fun _ _ => rfl⟩
    clear hQ
    by_cases hlt : k < n
    · obtain ⟨b1, o1, rfl, r1⟩ := HA.out (by omega)
      obtain ⟨b2, o2, rfl, r2⟩ := HB.out (by omega)
      have c1 : wr.cell? ⟨b1, o1 + k, none⟩ = some (.int .i64 (f k)) := kcell HW.out (r1 k hlt)
      have c2 : wr.cell? ⟨b2, o2 + k, none⟩ = some (.int .i64 (f k)) := by rw [HE.out k hlt]; exact kcell HW.out (r2 k hlt)
      clear r1 r2
      go_wp2_with fail
      go_quiet (fail)
      have HW2 : Hid (∃ q, wr.drewN nq = w.drewN q) := by obtain ⟨q, e⟩ := HQ.out; exact ⟨q + nq, by rw [e]; simp [World.drewN, Nat.add_assoc]⟩
      obtain ⟨Wq, hWq⟩ : ∃ Wq, Wq = wr.drewN nq := ⟨_, rfl⟩
      rw [← hWq] at HW2 ⊢
      clear hWq HW HQ c1 c2
      go_wp2_with fail
      go_roundw
      case rel => exact ⟨k + 1, by omega, by go_num, HW2.out⟩
      case measure => simp [intOf]; omega
    · have hke : k = n := by omega
      subst hke
      go_wp2_with fail
      go_ret
      exact ⟨rfl, HQ.out⟩
theorem same_yes (f g : Nat → Int) (a b : Option Addr) (n ca cb : Nat) (w : World) (hn : n ≤ 1000) (hA : Arg w a n f) (hB : Arg w b n g) (h : ∀ t, t < n → f t = g t) :
    Calls Try.prog 16 #[.slice a n ca, .slice b n cb] w fun e w' => e = .returned (.bool true) ∧ Below w.heap.size w w' :=
  (same_quiet f g a b n ca cb w hn hA hB h).mono fun e w' ⟨h1, q, h2⟩ => ⟨h1, by rw [h2]; exact ⟨rfl, rfl, rfl, Nat.le_refl _, fun _ _ => rfl⟩⟩
end Go.Proofs.Ytbcdfkcgcaifjaa
