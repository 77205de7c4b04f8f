/- Plain facts of rows of integers that are exchanged, rotated, and put in order. -/
import Derived.Test.YtbcdfkcgcaifjaaE
namespace Go.Proofs.Ytbcdfkcgcaifjaa

/-- the sum of the first ones of a row of numbers -/
def sumN (f : Nat → Int) : Nat → Int
  | 0 => 0
  | k + 1 => sumN f k + f k
theorem sumN_congr {f g : Nat → Int} {n : Nat} (h : ∀ t, t < n → f t = g t) : sumN f n = sumN g n := by
  induction n with
  | zero => rfl
  | succ n ih => simp only [sumN]; rw [ih fun t ht => h t (by omega), h n (by omega)]
theorem sumN_le {f g : Nat → Int} {n : Nat} (h : ∀ t, t < n → f t ≤ g t) : sumN f n ≤ sumN g n := by
  induction n with
  | zero => exact Int.le_refl _
  | succ n ih => have := ih fun t ht => h t (by omega); have := h n (by omega); simp only [sumN]; omega
theorem sumN_add (f g : Nat → Int) (n : Nat) : sumN (fun t => f t + g t) n = sumN f n + sumN g n := by
  induction n with
  | zero => rfl
  | succ n ih => simp only [sumN]; omega
theorem sumN_mul (c : Int) (f : Nat → Int) (n : Nat) : sumN (fun t => c * f t) n = c * sumN f n := by
  induction n with
  | zero => simp [sumN]
  | succ n ih => simp only [sumN]; rw [ih, Int.mul_add]
theorem sumN_zero {f : Nat → Int} {n : Nat} (h : ∀ t, t < n → f t = 0) : sumN f n = 0 := by
  induction n with
  | zero => rfl
  | succ n ih => simp only [sumN]; rw [ih fun t ht => h t (by omega), h n (by omega)]; rfl
theorem sumN_upd (f : Nat → Int) (i : Nat) (v : Int) (n : Nat) : sumN (fun t => if t = i then v else f t) n = if i < n then sumN f n - f i + v else sumN f n := by
  induction n with
  | zero => simp [sumN]
  | succ n ih =>
    simp only [sumN, ih]
    by_cases h1 : i < n
    · have h2 : n ≠ i := by omega
      have h3 : i < n + 1 := by omega
      simp only [h1, h2, h3, if_true, if_false]; omega
    · by_cases h2 : n = i
      · subst h2; simp
      · have h3 : ¬ i < n + 1 := by omega
        simp [h1, h2, h3]

def swp (f : Nat → Int) (i j : Nat) : Nat → Int := fun t => if t = i then f j else if t = j then f i else f t
theorem sumN_swp (f : Nat → Int) {i j n : Nat} (hi : i < n) (hj : j < n) : sumN (swp f i j) n = sumN f n := by
  by_cases e : i = j
  · subst e
    apply sumN_congr; intro t _; unfold swp; split <;> simp_all
  · have h1 := sumN_upd f j (f i) n
    have h2 := sumN_upd (fun t => if t = j then f i else f t) i (f j) n
    rw [if_pos hj] at h1
    rw [if_pos hi, h1] at h2
    simp only [if_neg e] at h2
    have : sumN (swp f i j) n = sumN (fun t => if t = i then f j else (fun t => if t = j then f i else f t) t) n := rfl
    rw [this, h2]; omega

/-- g is f with what stands from a to b in another order -/
structure Mix (n a b : Nat) (f g : Nat → Int) : Prop where
  out : ∀ t, t < a ∨ b ≤ t → g t = f t
  old : ∀ t, a ≤ t → t < b → ∃ s, a ≤ s ∧ s < b ∧ g t = f s
  sum : ∀ p : Int → Int, sumN (fun t => p (g t)) n = sumN (fun t => p (f t)) n
theorem Mix.refl (n a b : Nat) (f : Nat → Int) : Mix n a b f f := ⟨fun _ _ => rfl, fun t h1 h2 => ⟨t, h1, h2, rfl⟩, fun _ => rfl⟩
theorem Mix.trans {n a b : Nat} {f g h : Nat → Int} (x : Mix n a b f g) (y : Mix n a b g h) : Mix n a b f h :=
  ⟨fun t ht => (y.out t ht).trans (x.out t ht), fun t h1 h2 => by
    obtain ⟨s, s1, s2, s3⟩ := y.old t h1 h2
    obtain ⟨r, r1, r2, r3⟩ := x.old s s1 s2
    exact ⟨r, r1, r2, s3.trans r3⟩, fun p => (y.sum p).trans (x.sum p)⟩
theorem Mix.wide {n a b a' b' : Nat} {f g : Nat → Int} (x : Mix n a b f g) (ha : a' ≤ a) (hb : b ≤ b') : Mix n a' b' f g :=
  ⟨fun t ht => x.out t (by omega), fun t h1 h2 => by
    by_cases h : a ≤ t ∧ t < b
    · obtain ⟨s, s1, s2, s3⟩ := x.old t h.1 h.2
      exact ⟨s, by omega, by omega, s3⟩
    · exact ⟨t, h1, h2, x.out t (by omega)⟩, x.sum⟩
theorem mix_swp (n a b : Nat) (f : Nat → Int) {i j : Nat} (hi : a ≤ i) (hi2 : i < b) (hj : a ≤ j) (hj2 : j < b) (hb : b ≤ n) : Mix n a b f (swp f i j) := by
  refine ⟨fun t ht => ?_, fun t h1 h2 => ?_, fun p => ?_⟩
  · unfold swp; rw [if_neg (by omega), if_neg (by omega)]
  · unfold swp
    by_cases e1 : t = i
    · exact ⟨j, hj, hj2, by rw [if_pos e1]⟩
    · by_cases e2 : t = j
      · exact ⟨i, hi, hi2, by rw [if_neg e1, if_pos e2]⟩
      · exact ⟨t, h1, h2, by rw [if_neg e1, if_neg e2]⟩
  · rw [← sumN_swp (fun t => p (f t)) (i := i) (j := j) (n := n) (by omega) (by omega)]
    apply sumN_congr; intro t _; unfold swp; split
    · rfl
    · split <;> rfl
theorem Mix.swp {n a b : Nat} {f g : Nat → Int} (x : Mix n a b f g) {i j : Nat} (hi : a ≤ i) (hi2 : i < b) (hj : a ≤ j) (hj2 : j < b) (hb : b ≤ n) : Mix n a b f (swp g i j) :=
  x.trans (mix_swp n a b g hi hi2 hj hj2 hb)

/-- the numbers' keys rise from a to b -/
def Up (h : Int → Int) (f : Nat → Int) (a b : Nat) : Prop := ∀ s t, a ≤ s → s < t → t < b → h (f s) < h (f t)
/-- the number at i has gone down to j -/
def ins (f : Nat → Int) (i j : Nat) : Nat → Int := fun t => if t < j then f t else if t = j then f i else if t ≤ i then f (t - 1) else f t
theorem ins_start (f : Nat → Int) (i : Nat) : ins f i i = f := by
  funext t; unfold ins; split
  · rfl
  · split
    · subst t; rfl
    · rw [if_neg (by omega)]
theorem ins_step (f : Nat → Int) {i j : Nat} (h : j < i) : swp (ins f i (j + 1)) (j + 1) j = ins f i j := by
  funext t; unfold swp ins
  by_cases e1 : t = j + 1
  · subst e1
    have a1 : ¬ j + 1 < j := by omega
    have a3 : j + 1 ≤ i := by omega
    simp [a1, a3]
  · by_cases e2 : t = j
    · subst e2; simp
    · by_cases e3 : t < j
      · have a1 : t < j + 1 := by omega
        simp [e1, e2, e3, a1]
      · have a1 : ¬ t < j + 1 := by omega
        simp [e1, e2, e3, a1]
theorem ins_up {h : Int → Int} {f : Nat → Int} {a i j : Nat} (u : Up h f a i) (ha : a ≤ j) (hj : j ≤ i) (lo : ∀ t, a ≤ t → t < j → h (f t) < h (f i)) (hi : ∀ t, j ≤ t → t < i → h (f i) < h (f t)) : Up h (ins f i j) a (i + 1) := by
  intro s t hs hst ht
  unfold ins
  by_cases s1 : s < j
  · rw [if_pos s1]
    by_cases t1 : t < j
    · rw [if_pos t1]; exact u s t hs hst (by omega)
    · rw [if_neg t1]
      by_cases t2 : t = j
      · rw [if_pos t2]; exact lo s hs s1
      · rw [if_neg t2, if_pos (by omega)]; exact u s (t - 1) hs (by omega) (by omega)
  · rw [if_neg s1, if_neg (show ¬ t < j by omega), if_neg (show ¬ t = j by omega), if_pos (show t ≤ i by omega)]
    by_cases s2 : s = j
    · rw [if_pos s2]; exact hi (t - 1) (by omega) (by omega)
    · rw [if_neg s2, if_pos (by omega)]; exact u (s - 1) (t - 1) (by omega) (by omega) (by omega)

/-- the number at a has gone up to k -/
def outs (f : Nat → Int) (a k : Nat) : Nat → Int := fun t => if t < a then f t else if t < k then f (t + 1) else if t = k then f a else f t
theorem outs_start (f : Nat → Int) (a : Nat) : outs f a a = f := by
  funext t; unfold outs
  by_cases c1 : t < a
  · rw [if_pos c1]
  · rw [if_neg c1, if_neg c1]
    by_cases c2 : t = a
    · rw [if_pos c2, c2]
    · rw [if_neg c2]
theorem outs_step (f : Nat → Int) {a k : Nat} (h : a ≤ k) : swp (outs f a k) k (k + 1) = outs f a (k + 1) := by
  funext t; unfold swp outs
  by_cases e1 : t = k
  · subst e1
    have a1 : ¬ t + 1 < a := by omega
    have a2 : ¬ t < a := by omega
    have a3 : ¬ t + 1 < t := by omega
    simp [a1, a2, a3]
  · by_cases e2 : t = k + 1
    · subst e2
      have a1 : ¬ k < a := by omega
      have a2 : ¬ k + 1 < a := by omega
      simp [a1, a2]
    · by_cases e3 : t < k
      · have a1 : t < k + 1 := by omega
        simp [e1, e2, e3, a1]
      · have a1 : ¬ t < k + 1 := by omega
        simp [e1, e2, e3, a1]
theorem outs_up {h : Int → Int} {f : Nat → Int} {a i b : Nat} (u : Up h f (a + 1) b) (hi : a + 1 ≤ i) (hb : i ≤ b) (lo : ∀ t, a + 1 ≤ t → t < i → h (f t) < h (f a)) (up : ∀ t, i ≤ t → t < b → h (f a) < h (f t)) : Up h (outs f a (i - 1)) a b := by
  intro s t hs hst ht
  unfold outs
  rw [if_neg (show ¬ s < a by omega), if_neg (show ¬ t < a by omega)]
  by_cases t1 : t < i - 1
  · rw [if_pos t1, if_pos (by omega)]; exact u (s + 1) (t + 1) (by omega) (by omega) (by omega)
  · rw [if_neg t1]
    by_cases t2 : t = i - 1
    · rw [if_pos t2, if_pos (by omega)]; exact lo (s + 1) (by omega) (by omega)
    · rw [if_neg t2]
      by_cases s1 : s < i - 1
      · rw [if_pos s1]; exact u (s + 1) t (by omega) (by omega) ht
      · rw [if_neg s1]
        by_cases s2 : s = i - 1
        · rw [if_pos s2]; exact up t (by omega) ht
        · rw [if_neg s2]; exact u s t (by omega) hst ht

/-- n numbers from a on, and from b on, exchanged -/
def swr (f : Nat → Int) (a b n : Nat) : Nat → Int := fun t => if a ≤ t ∧ t < a + n then f (t - a + b) else if b ≤ t ∧ t < b + n then f (t - b + a) else f t
theorem swr_start (f : Nat → Int) (a b : Nat) : swr f a b 0 = f := by
  funext t; unfold swr; rw [if_neg (by omega), if_neg (by omega)]
theorem swr_step (f : Nat → Int) {a b k : Nat} (h : a + k + 1 ≤ b) : swp (swr f a b k) (a + k) (b + k) = swr f a b (k + 1) := by
  funext t; unfold swp swr
  by_cases e1 : t = a + k
  · subst e1
    rw [if_pos rfl, if_neg (by omega), if_neg (by omega), if_pos (by omega)]; congr 1; omega
  · rw [if_neg e1]
    by_cases e2 : t = b + k
    · subst e2
      rw [if_pos rfl, if_neg (by omega), if_neg (by omega), if_neg (by omega), if_pos (by omega)]; congr 1; omega
    · rw [if_neg e2]
      by_cases c1 : a ≤ t ∧ t < a + k
      · rw [if_pos c1, if_pos (by omega)]
      · rw [if_neg c1, if_neg (show ¬ (a ≤ t ∧ t < a + (k + 1)) by omega)]
        by_cases c2 : b ≤ t ∧ t < b + k
        · rw [if_pos c2, if_pos (by omega)]
        · rw [if_neg c2, if_neg (by omega)]
/-- what stands from a to m, and from m to b, the other way about -/
def rot (f : Nat → Int) (a m b : Nat) : Nat → Int := fun t => if t < a then f t else if t < a + (b - m) then f (t + (m - a)) else if t < b then f (t - (b - m)) else f t
theorem rot_more (f : Nat → Int) {m i j : Nat} (hi : i ≤ m) (h : j < i) : rot (swr f (m - i) m j) (m - (i - j)) m (m + j) = rot f (m - i) m (m + j) := by
  funext t; unfold rot swr
  by_cases c1 : t < m - i
  · rw [if_pos (by omega), if_neg (by omega), if_neg (by omega), if_pos c1]
  · by_cases c2 : t < m - i + j
    · rw [if_pos (by omega), if_pos (by omega), if_neg c1, if_pos (by omega)]; congr 1; omega
    · by_cases c3 : t < m - i + 2 * j
      · by_cases c4 : t < m + j
        · rw [if_neg (by omega), if_pos (by omega), if_neg (by omega), if_pos (by omega), if_neg c1, if_neg (by omega), if_pos (by omega)]; congr 1; omega
        · omega
      · by_cases c4 : t < m + j
        · rw [if_neg (by omega), if_neg (by omega), if_pos (by omega), if_neg (by omega), if_neg (by omega), if_neg c1, if_neg (by omega), if_pos (by omega)]
        · rw [if_neg (by omega), if_neg (by omega), if_neg (by omega), if_neg (by omega), if_neg (by omega), if_neg c1, if_neg (by omega), if_neg (by omega)]
theorem rot_less (f : Nat → Int) {m i j : Nat} (hi : i ≤ m) (h : i < j) : rot (swr f (m - i) (m + j - i) i) (m - i) m (m + (j - i)) = rot f (m - i) m (m + j) := by
  funext t; unfold rot swr
  by_cases c1 : t < m - i
  · rw [if_pos (by omega), if_neg (by omega), if_neg (by omega), if_pos c1]
  · rw [if_neg c1, if_neg c1]
    by_cases c2 : t < m - i + (j - i)
    · rw [if_pos (by omega), if_neg (by omega), if_neg (by omega), if_pos (by omega)]
    · rw [if_neg (by omega)]
      by_cases c3 : t < m + (j - i)
      · rw [if_pos (by omega), if_pos (by omega), if_pos (by omega)]; congr 1; omega
      · rw [if_neg (by omega)]
        by_cases c4 : t < m + j
        · rw [if_neg (by omega), if_pos (by omega), if_neg (by omega), if_pos (by omega)]; congr 1; omega
        · rw [if_neg (by omega), if_neg (by omega), if_neg (by omega), if_neg (by omega)]
theorem rot_same (f : Nat → Int) {m i : Nat} (hi : i ≤ m) : swr f (m - i) m i = rot f (m - i) m (m + i) := by
  funext t; unfold rot swr
  by_cases c1 : t < m - i
  · rw [if_neg (by omega), if_neg (by omega), if_pos c1]
  · rw [if_neg c1]
    by_cases c2 : t < m
    · rw [if_pos (by omega), if_pos (by omega)]; congr 1; omega
    · rw [if_neg (by omega), if_neg (show ¬ t < m - i + (m + i - m) by omega)]
      by_cases c3 : t < m + i
      · rw [if_pos (by omega), if_pos (by omega)]; congr 1; omega
      · rw [if_neg (by omega), if_neg (by omega)]
theorem rot_none (f : Nat → Int) {a m b : Nat} (h1 : a ≤ m) (h2 : m ≤ b) (h : a = m ∨ m = b) : rot f a m b = f := by
  funext t; unfold rot
  by_cases c1 : t < a
  · rw [if_pos c1]
  · rw [if_neg c1]
    by_cases c2 : t < a + (b - m)
    · rw [if_pos c2]; congr 1; omega
    · rw [if_neg c2]
      by_cases c3 : t < b
      · rw [if_pos c3]; congr 1; omega
      · rw [if_neg c3]
theorem mix_rot {n : Nat} {f : Nat → Int} {a m b : Nat} (h1 : a ≤ m) (h2 : m ≤ b) (hs : ∀ p : Int → Int, sumN (fun t => p (rot f a m b t)) n = sumN (fun t => p (f t)) n) : Mix n a b f (rot f a m b) := by
  refine ⟨fun t ht => ?_, fun t t1 t2 => ?_, hs⟩
  · unfold rot
    by_cases c1 : t < a
    · rw [if_pos c1]
    · rw [if_neg c1, if_neg (by omega), if_neg (by omega)]
  · unfold rot
    rw [if_neg (by omega)]
    by_cases c : t < a + (b - m)
    · rw [if_pos c]; exact ⟨t + (m - a), by omega, by omega, rfl⟩
    · rw [if_neg c, if_pos t2]; exact ⟨t - (b - m), by omega, by omega, rfl⟩
theorem sum_swp {f g : Nat → Int} {i j n : Nat} (h : swp f i j = g) (hi : i < n) (hj : j < n) (p : Int → Int) : sumN (fun t => p (g t)) n = sumN (fun t => p (f t)) n := by
  subst h
  rw [← sumN_swp (fun t => p (f t)) hi hj]
  apply sumN_congr; intro t _; unfold swp; split
  · rfl
  · split <;> rfl
theorem ins_sum (f : Nat → Int) {i n : Nat} (hi : i < n) (p : Int → Int) : ∀ k, k ≤ i → sumN (fun t => p (ins f i (i - k) t)) n = sumN (fun t => p (f t)) n := by
  intro k
  induction k with
  | zero => intro _; rw [Nat.sub_zero, ins_start]
  | succ k ih =>
    intro hk
    have e := ins_step f (i := i) (j := i - (k + 1)) (by omega)
    rw [show i - (k + 1) + 1 = i - k by omega] at e
    rw [sum_swp e (by omega) (by omega) p]; exact ih (by omega)
theorem mix_ins (f : Nat → Int) {n a i j : Nat} (ha : a ≤ j) (hj : j ≤ i) (hi : i < n) : Mix n a (i + 1) f (ins f i j) := by
  refine ⟨fun t ht => ?_, fun t t1 t2 => ?_, fun p => ?_⟩
  · unfold ins
    by_cases c : t < j
    · rw [if_pos c]
    · rw [if_neg c, if_neg (by omega), if_neg (by omega)]
  · unfold ins
    by_cases c : t < j
    · rw [if_pos c]; exact ⟨t, t1, t2, rfl⟩
    · rw [if_neg c]
      by_cases d : t = j
      · rw [if_pos d]; exact ⟨i, by omega, by omega, rfl⟩
      · rw [if_neg d, if_pos (by omega)]; exact ⟨t - 1, by omega, by omega, rfl⟩
  · have := ins_sum f hi p (i - j) (by omega)
    rwa [show i - (i - j) = j by omega] at this
theorem mix_outs (f : Nat → Int) {n a k b : Nat} (ha : a ≤ k) (hk : k < b) (hb : b ≤ n) : Mix n a b f (outs f a k) := by
  refine ⟨fun t ht => ?_, fun t t1 t2 => ?_, fun p => ?_⟩
  · unfold outs
    by_cases c : t < a
    · rw [if_pos c]
    · rw [if_neg c, if_neg (by omega), if_neg (by omega)]
  · unfold outs
    rw [if_neg (by omega)]
    by_cases c : t < k
    · rw [if_pos c]; exact ⟨t + 1, by omega, by omega, rfl⟩
    · rw [if_neg c]
      by_cases d : t = k
      · rw [if_pos d]; exact ⟨a, by omega, by omega, rfl⟩
      · rw [if_neg d]; exact ⟨t, t1, t2, rfl⟩
  · have key : ∀ d, a + d < n → sumN (fun t => p (outs f a (a + d) t)) n = sumN (fun t => p (f t)) n := by
      intro d
      induction d with
      | zero => intro _; rw [Nat.add_zero, outs_start]
      | succ d ih =>
        intro hd
        have e := outs_step f (a := a) (k := a + d) (by omega)
        rw [← Nat.add_assoc, sum_swp e (by omega) (by omega) p]; exact ih (by omega)
    have := key (k - a) (by omega)
    rwa [show a + (k - a) = k by omega] at this
theorem swr_sum (f : Nat → Int) {n a b : Nat} (p : Int → Int) : ∀ k, a + k ≤ b → b + k ≤ n → sumN (fun t => p (swr f a b k t)) n = sumN (fun t => p (f t)) n := by
  intro k
  induction k with
  | zero => intro _ _; rw [swr_start]
  | succ k ih =>
    intro h1 h2
    rw [sum_swp (swr_step f (by omega)) (by omega) (by omega) p]; exact ih (by omega) (by omega)
theorem rot_sum {n m : Nat} (p : Int → Int) : ∀ q i j : Nat, i + j ≤ q → i ≤ m → m + j ≤ n → ∀ f : Nat → Int, sumN (fun t => p (rot f (m - i) m (m + j) t)) n = sumN (fun t => p (f t)) n := by
  intro q
  induction q with
  | zero => intro i j h1 h2 h3 f; rw [rot_none f (by omega) (by omega) (by omega)]
  | succ q ih =>
    intro i j h1 h2 h3 f
    by_cases e0 : i = 0 ∨ j = 0
    · rw [rot_none f (by omega) (by omega) (by omega)]
    · by_cases e1 : j < i
      · rw [← rot_more f h2 e1, ih (i - j) j (by omega) (by omega) h3, swr_sum f p j (by omega) (by omega)]
      · by_cases e2 : i < j
        · rw [← rot_less f h2 e2, ih i (j - i) (by omega) h2 (by omega), swr_sum f p i (by omega) (by omega)]
        · have e3 : i = j := by omega
          subst e3
          rw [← rot_same f h2, swr_sum f p i (by omega) (by omega)]
theorem mix_rot' (f : Nat → Int) {n a m b : Nat} (h1 : a ≤ m) (h2 : m ≤ b) (h3 : b ≤ n) : Mix n a b f (rot f a m b) := by
  apply mix_rot h1 h2
  intro p
  have := rot_sum (n := n) (m := m) p ((m - a) + (b - m)) (m - a) (b - m) (Nat.le_refl _) (by omega) (by omega) f
  rwa [show m - (m - a) = a by omega, show m + (b - m) = b by omega] at this
end Go.Proofs.Ytbcdfkcgcaifjaa
