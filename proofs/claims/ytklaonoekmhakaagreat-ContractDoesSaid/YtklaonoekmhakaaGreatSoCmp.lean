/- Plain facts of rows of integers that are exchanged, rotated, and put in order. -/
import Derived.BigRegion
import Derived.Test.YtklaonoekmhakaaGreatS
import Derived.Test.YtklaonoekmhakaaGreatU
namespace Go.Proofs.YtklaonoekmhakaaGreat

/-- the sum of the first ones of a row of numbers -/
def sumN (f : Nat → Int) : Nat → Int
  | 0 => 0
  | k + 1 => sumN f k + f k
theorem sumN_congr {f g : Nat → Int} {n : Nat} (h : ∀ t, t < n → f t = g t) : sumN f n = sumN g n := by
  induction n with
  | zero => rfl
  | succ n ih => simp only [sumN]; rw [ih fun t ht => h t (by omega), h n (by omega)]
theorem sumN_le {f g : Nat → Int} {n : Nat} (h : ∀ t, t < n → f t ≤ g t) : sumN f n ≤ sumN g n := by
  induction n with
  | zero => exact Int.le_refl _
  | succ n ih => have := ih fun t ht => h t (by omega); have := h n (by omega); simp only [sumN]; omega
theorem sumN_add (f g : Nat → Int) (n : Nat) : sumN (fun t => f t + g t) n = sumN f n + sumN g n := by
  induction n with
  | zero => rfl
  | succ n ih => simp only [sumN]; omega
theorem sumN_mul (c : Int) (f : Nat → Int) (n : Nat) : sumN (fun t => c * f t) n = c * sumN f n := by
  induction n with
  | zero => simp [sumN]
  | succ n ih => simp only [sumN]; rw [ih, Int.mul_add]
theorem sumN_zero {f : Nat → Int} {n : Nat} (h : ∀ t, t < n → f t = 0) : sumN f n = 0 := by
  induction n with
  | zero => rfl
  | succ n ih => simp only [sumN]; rw [ih fun t ht => h t (by omega), h n (by omega)]; rfl
theorem sumN_upd (f : Nat → Int) (i : Nat) (v : Int) (n : Nat) : sumN (fun t => if t = i then v else f t) n = if i < n then sumN f n - f i + v else sumN f n := by
  induction n with
  | zero => simp [sumN]
  | succ n ih =>
    simp only [sumN, ih]
    by_cases h1 : i < n
    · have h2 : n ≠ i := by omega
      have h3 : i < n + 1 := by omega
      simp only [h1, h2, h3, if_true, if_false]; omega
    · by_cases h2 : n = i
      · subst h2; simp
      · have h3 : ¬ i < n + 1 := by omega
        simp [h1, h2, h3]

def swp (f : Nat → Int) (i j : Nat) : Nat → Int := fun t => if t = i then f j else if t = j then f i else f t
theorem sumN_swp (f : Nat → Int) {i j n : Nat} (hi : i < n) (hj : j < n) : sumN (swp f i j) n = sumN f n := by
  by_cases e : i = j
  · subst e
    apply sumN_congr; intro t _; unfold swp; split <;> simp_all
  · have h1 := sumN_upd f j (f i) n
    have h2 := sumN_upd (fun t => if t = j then f i else f t) i (f j) n
    rw [if_pos hj] at h1
    rw [if_pos hi, h1] at h2
    simp only [if_neg e] at h2
    have : sumN (swp f i j) n = sumN (fun t => if t = i then f j else (fun t => if t = j then f i else f t) t) n := rfl
    rw [this, h2]; omega

/-- g is f with what stands from a to b in another order -/
structure Mix (n a b : Nat) (f g : Nat → Int) : Prop where
  out : ∀ t, t < a ∨ b ≤ t → g t = f t
  old : ∀ t, a ≤ t → t < b → ∃ s, a ≤ s ∧ s < b ∧ g t = f s
  sum : ∀ p : Int → Int, sumN (fun t => p (g t)) n = sumN (fun t => p (f t)) n
theorem Mix.refl (n a b : Nat) (f : Nat → Int) : Mix n a b f f := ⟨fun _ _ => rfl, fun t h1 h2 => ⟨t, h1, h2, rfl⟩, fun _ => rfl⟩
theorem Mix.trans {n a b : Nat} {f g h : Nat → Int} (x : Mix n a b f g) (y : Mix n a b g h) : Mix n a b f h :=
  ⟨fun t ht => (y.out t ht).trans (x.out t ht), fun t h1 h2 => by
    obtain ⟨s, s1, s2, s3⟩ := y.old t h1 h2
    obtain ⟨r, r1, r2, r3⟩ := x.old s s1 s2
    exact ⟨r, r1, r2, s3.trans r3⟩, fun p => (y.sum p).trans (x.sum p)⟩
theorem Mix.wide {n a b a' b' : Nat} {f g : Nat → Int} (x : Mix n a b f g) (ha : a' ≤ a) (hb : b ≤ b') : Mix n a' b' f g :=
  ⟨fun t ht => x.out t (by omega), fun t h1 h2 => by
    by_cases h : a ≤ t ∧ t < b
    · obtain ⟨s, s1, s2, s3⟩ := x.old t h.1 h.2
      exact ⟨s, by omega, by omega, s3⟩
    · exact ⟨t, h1, h2, x.out t (by omega)⟩, x.sum⟩
theorem mix_swp (n a b : Nat) (f : Nat → Int) {i j : Nat} (hi : a ≤ i) (hi2 : i < b) (hj : a ≤ j) (hj2 : j < b) (hb : b ≤ n) : Mix n a b f (swp f i j) := by
  refine ⟨fun t ht => ?_, fun t h1 h2 => ?_, fun p => ?_⟩
  · unfold swp; rw [if_neg (by omega), if_neg (by omega)]
  · unfold swp
    by_cases e1 : t = i
    · exact ⟨j, hj, hj2, by rw [if_pos e1]⟩
    · by_cases e2 : t = j
      · exact ⟨i, hi, hi2, by rw [if_neg e1, if_pos e2]⟩
      · exact ⟨t, h1, h2, by rw [if_neg e1, if_neg e2]⟩
  · rw [← sumN_swp (fun t => p (f t)) (i := i) (j := j) (n := n) (by omega) (by omega)]
    apply sumN_congr; intro t _; unfold swp; split
    · rfl
    · split <;> rfl
theorem Mix.swp {n a b : Nat} {f g : Nat → Int} (x : Mix n a b f g) {i j : Nat} (hi : a ≤ i) (hi2 : i < b) (hj : a ≤ j) (hj2 : j < b) (hb : b ≤ n) : Mix n a b f (swp g i j) :=
  x.trans (mix_swp n a b g hi hi2 hj hj2 hb)

/-- the numbers' keys rise from a to b -/
def Up (h : Int → Int) (f : Nat → Int) (a b : Nat) : Prop := ∀ s t, a ≤ s → s < t → t < b → h (f s) < h (f t)
/-- the number at i has gone down to j -/
def ins (f : Nat → Int) (i j : Nat) : Nat → Int := fun t => if t < j then f t else if t = j then f i else if t ≤ i then f (t - 1) else f t
theorem ins_start (f : Nat → Int) (i : Nat) : ins f i i = f := by
  funext t; unfold ins; split
  · rfl
  · split
    · subst t; rfl
    · rw [if_neg (by omega)]
theorem ins_step (f : Nat → Int) {i j : Nat} (h : j < i) : swp (ins f i (j + 1)) (j + 1) j = ins f i j := by
  funext t; unfold swp ins
  by_cases e1 : t = j + 1
  · subst e1
    have a1 : ¬ j + 1 < j := by omega
    have a3 : j + 1 ≤ i := by omega
    simp [a1, a3]
  · by_cases e2 : t = j
    · subst e2; simp
    · by_cases e3 : t < j
      · have a1 : t < j + 1 := by omega
        simp [e1, e2, e3, a1]
      · have a1 : ¬ t < j + 1 := by omega
        simp [e1, e2, e3, a1]
theorem ins_up {h : Int → Int} {f : Nat → Int} {a i j : Nat} (u : Up h f a i) (ha : a ≤ j) (hj : j ≤ i) (lo : ∀ t, a ≤ t → t < j → h (f t) < h (f i)) (hi : ∀ t, j ≤ t → t < i → h (f i) < h (f t)) : Up h (ins f i j) a (i + 1) := by
  intro s t hs hst ht
  unfold ins
  by_cases s1 : s < j
  · rw [if_pos s1]
    by_cases t1 : t < j
    · rw [if_pos t1]; exact u s t hs hst (by omega)
    · rw [if_neg t1]
      by_cases t2 : t = j
      · rw [if_pos t2]; exact lo s hs s1
      · rw [if_neg t2, if_pos (by omega)]; exact u s (t - 1) hs (by omega) (by omega)
  · rw [if_neg s1, if_neg (show ¬ t < j by omega), if_neg (show ¬ t = j by omega), if_pos (show t ≤ i by omega)]
    by_cases s2 : s = j
    · rw [if_pos s2]; exact hi (t - 1) (by omega) (by omega)
    · rw [if_neg s2, if_pos (by omega)]; exact u (s - 1) (t - 1) (by omega) (by omega) (by omega)

/-- the number at a has gone up to k -/
def outs (f : Nat → Int) (a k : Nat) : Nat → Int := fun t => if t < a then f t else if t < k then f (t + 1) else if t = k then f a else f t
theorem outs_start (f : Nat → Int) (a : Nat) : outs f a a = f := by
  funext t; unfold outs
  by_cases c1 : t < a
  · rw [if_pos c1]
  · rw [if_neg c1, if_neg c1]
    by_cases c2 : t = a
    · rw [if_pos c2, c2]
    · rw [if_neg c2]
theorem outs_step (f : Nat → Int) {a k : Nat} (h : a ≤ k) : swp (outs f a k) k (k + 1) = outs f a (k + 1) := by
  funext t; unfold swp outs
  by_cases e1 : t = k
  · subst e1
    have a1 : ¬ t + 1 < a := by omega
    have a2 : ¬ t < a := by omega
    have a3 : ¬ t + 1 < t := by omega
    simp [a1, a2, a3]
  · by_cases e2 : t = k + 1
    · subst e2
      have a1 : ¬ k < a := by omega
      have a2 : ¬ k + 1 < a := by omega
      simp [a1, a2]
    · by_cases e3 : t < k
      · have a1 : t < k + 1 := by omega
        simp [e1, e2, e3, a1]
      · have a1 : ¬ t < k + 1 := by omega
        simp [e1, e2, e3, a1]
theorem outs_up {h : Int → Int} {f : Nat → Int} {a i b : Nat} (u : Up h f (a + 1) b) (hi : a + 1 ≤ i) (hb : i ≤ b) (lo : ∀ t, a + 1 ≤ t → t < i → h (f t) < h (f a)) (up : ∀ t, i ≤ t → t < b → h (f a) < h (f t)) : Up h (outs f a (i - 1)) a b := by
  intro s t hs hst ht
  unfold outs
  rw [if_neg (show ¬ s < a by omega), if_neg (show ¬ t < a by omega)]
  by_cases t1 : t < i - 1
  · rw [if_pos t1, if_pos (by omega)]; exact u (s + 1) (t + 1) (by omega) (by omega) (by omega)
  · rw [if_neg t1]
    by_cases t2 : t = i - 1
    · rw [if_pos t2, if_pos (by omega)]; exact lo (s + 1) (by omega) (by omega)
    · rw [if_neg t2]
      by_cases s1 : s < i - 1
      · rw [if_pos s1]; exact u (s + 1) t (by omega) (by omega) ht
      · rw [if_neg s1]
        by_cases s2 : s = i - 1
        · rw [if_pos s2]; exact up t (by omega) ht
        · rw [if_neg s2]; exact u s t (by omega) hst ht

/-- n numbers from a on, and from b on, exchanged -/
def swr (f : Nat → Int) (a b n : Nat) : Nat → Int := fun t => if a ≤ t ∧ t < a + n then f (t - a + b) else if b ≤ t ∧ t < b + n then f (t - b + a) else f t
theorem swr_start (f : Nat → Int) (a b : Nat) : swr f a b 0 = f := by
  funext t; unfold swr; rw [if_neg (by omega), if_neg (by omega)]
theorem swr_step (f : Nat → Int) {a b k : Nat} (h : a + k + 1 ≤ b) : swp (swr f a b k) (a + k) (b + k) = swr f a b (k + 1) := by
  funext t; unfold swp swr
  by_cases e1 : t = a + k
  · subst e1
    rw [if_pos rfl, if_neg (by omega), if_neg (by omega), if_pos (by omega)]; congr 1; omega
  · rw [if_neg e1]
    by_cases e2 : t = b + k
    · subst e2
      rw [if_pos rfl, if_neg (by omega), if_neg (by omega), if_neg (by omega), if_pos (by omega)]; congr 1; omega
    · rw [if_neg e2]
      by_cases c1 : a ≤ t ∧ t < a + k
      · rw [if_pos c1, if_pos (by omega)]
      · rw [if_neg c1, if_neg (show ¬ (a ≤ t ∧ t < a + (k + 1)) by omega)]
        by_cases c2 : b ≤ t ∧ t < b + k
        · rw [if_pos c2, if_pos (by omega)]
        · rw [if_neg c2, if_neg (by omega)]
/-- what stands from a to m, and from m to b, the other way about -/
def rot (f : Nat → Int) (a m b : Nat) : Nat → Int := fun t => if t < a then f t else if t < a + (b - m) then f (t + (m - a)) else if t < b then f (t - (b - m)) else f t
theorem rot_more (f : Nat → Int) {m i j : Nat} (hi : i ≤ m) (h : j < i) : rot (swr f (m - i) m j) (m - (i - j)) m (m + j) = rot f (m - i) m (m + j) := by
  funext t; unfold rot swr
  by_cases c1 : t < m - i
  · rw [if_pos (by omega), if_neg (by omega), if_neg (by omega), if_pos c1]
  · by_cases c2 : t < m - i + j
    · rw [if_pos (by omega), if_pos (by omega), if_neg c1, if_pos (by omega)]; congr 1; omega
    · by_cases c3 : t < m - i + 2 * j
      · by_cases c4 : t < m + j
        · rw [if_neg (by omega), if_pos (by omega), if_neg (by omega), if_pos (by omega), if_neg c1, if_neg (by omega), if_pos (by omega)]; congr 1; omega
        · omega
      · by_cases c4 : t < m + j
        · rw [if_neg (by omega), if_neg (by omega), if_pos (by omega), if_neg (by omega), if_neg (by omega), if_neg c1, if_neg (by omega), if_pos (by omega)]
        · rw [if_neg (by omega), if_neg (by omega), if_neg (by omega), if_neg (by omega), if_neg (by omega), if_neg c1, if_neg (by omega), if_neg (by omega)]
theorem rot_less (f : Nat → Int) {m i j : Nat} (hi : i ≤ m) (h : i < j) : rot (swr f (m - i) (m + j - i) i) (m - i) m (m + (j - i)) = rot f (m - i) m (m + j) := by
  funext t; unfold rot swr
  by_cases c1 : t < m - i
  · rw [if_pos (by omega), if_neg (by omega), if_neg (by omega), if_pos c1]
  · rw [if_neg c1, if_neg c1]
    by_cases c2 : t < m - i + (j - i)
    · rw [if_pos (by omega), if_neg (by omega), if_neg (by omega), if_pos (by omega)]
    · rw [if_neg (by omega)]
      by_cases c3 : t < m + (j - i)
      · rw [if_pos (by omega), if_pos (by omega), if_pos (by omega)]; congr 1; omega
      · rw [if_neg (by omega)]
        by_cases c4 : t < m + j
        · rw [if_neg (by omega), if_pos (by omega), if_neg (by omega), if_pos (by omega)]; congr 1; omega
        · rw [if_neg (by omega), if_neg (by omega), if_neg (by omega), if_neg (by omega)]
theorem rot_same (f : Nat → Int) {m i : Nat} (hi : i ≤ m) : swr f (m - i) m i = rot f (m - i) m (m + i) := by
  funext t; unfold rot swr
  by_cases c1 : t < m - i
  · rw [if_neg (by omega), if_neg (by omega), if_pos c1]
  · rw [if_neg c1]
    by_cases c2 : t < m
    · rw [if_pos (by omega), if_pos (by omega)]; congr 1; omega
    · rw [if_neg (by omega), if_neg (show ¬ t < m - i + (m + i - m) by omega)]
      by_cases c3 : t < m + i
      · rw [if_pos (by omega), if_pos (by omega)]; congr 1; omega
      · rw [if_neg (by omega), if_neg (by omega)]
theorem rot_none (f : Nat → Int) {a m b : Nat} (h1 : a ≤ m) (h2 : m ≤ b) (h : a = m ∨ m = b) : rot f a m b = f := by
  funext t; unfold rot
  by_cases c1 : t < a
  · rw [if_pos c1]
  · rw [if_neg c1]
    by_cases c2 : t < a + (b - m)
    · rw [if_pos c2]; congr 1; omega
    · rw [if_neg c2]
      by_cases c3 : t < b
      · rw [if_pos c3]; congr 1; omega
      · rw [if_neg c3]
theorem mix_rot {n : Nat} {f : Nat → Int} {a m b : Nat} (h1 : a ≤ m) (h2 : m ≤ b) (hs : ∀ p : Int → Int, sumN (fun t => p (rot f a m b t)) n = sumN (fun t => p (f t)) n) : Mix n a b f (rot f a m b) := by
  refine ⟨fun t ht => ?_, fun t t1 t2 => ?_, hs⟩
  · unfold rot
    by_cases c1 : t < a
    · rw [if_pos c1]
    · rw [if_neg c1, if_neg (by omega), if_neg (by omega)]
  · unfold rot
    rw [if_neg (by omega)]
    by_cases c : t < a + (b - m)
    · rw [if_pos c]; exact ⟨t + (m - a), by omega, by omega, rfl⟩
    · rw [if_neg c, if_pos t2]; exact ⟨t - (b - m), by omega, by omega, rfl⟩
theorem sum_swp {f g : Nat → Int} {i j n : Nat} (h : swp f i j = g) (hi : i < n) (hj : j < n) (p : Int → Int) : sumN (fun t => p (g t)) n = sumN (fun t => p (f t)) n := by
  subst h
  rw [← sumN_swp (fun t => p (f t)) hi hj]
  apply sumN_congr; intro t _; unfold swp; split
  · rfl
  · split <;> rfl
theorem ins_sum (f : Nat → Int) {i n : Nat} (hi : i < n) (p : Int → Int) : ∀ k, k ≤ i → sumN (fun t => p (ins f i (i - k) t)) n = sumN (fun t => p (f t)) n := by
  intro k
  induction k with
  | zero => intro _; rw [Nat.sub_zero, ins_start]
  | succ k ih =>
    intro hk
    have e := ins_step f (i := i) (j := i - (k + 1)) (by omega)
    rw [show i - (k + 1) + 1 = i - k by omega] at e
    rw [sum_swp e (by omega) (by omega) p]; exact ih (by omega)
theorem mix_ins (f : Nat → Int) {n a i j : Nat} (ha : a ≤ j) (hj : j ≤ i) (hi : i < n) : Mix n a (i + 1) f (ins f i j) := by
  refine ⟨fun t ht => ?_, fun t t1 t2 => ?_, fun p => ?_⟩
  · unfold ins
    by_cases c : t < j
    · rw [if_pos c]
    · rw [if_neg c, if_neg (by omega), if_neg (by omega)]
  · unfold ins
    by_cases c : t < j
    · rw [if_pos c]; exact ⟨t, t1, t2, rfl⟩
    · rw [if_neg c]
      by_cases d : t = j
      · rw [if_pos d]; exact ⟨i, by omega, by omega, rfl⟩
      · rw [if_neg d, if_pos (by omega)]; exact ⟨t - 1, by omega, by omega, rfl⟩
  · have := ins_sum f hi p (i - j) (by omega)
    rwa [show i - (i - j) = j by omega] at this
theorem mix_outs (f : Nat → Int) {n a k b : Nat} (ha : a ≤ k) (hk : k < b) (hb : b ≤ n) : Mix n a b f (outs f a k) := by
  refine ⟨fun t ht => ?_, fun t t1 t2 => ?_, fun p => ?_⟩
  · unfold outs
    by_cases c : t < a
    · rw [if_pos c]
    · rw [if_neg c, if_neg (by omega), if_neg (by omega)]
  · unfold outs
    rw [if_neg (by omega)]
    by_cases c : t < k
    · rw [if_pos c]; exact ⟨t + 1, by omega, by omega, rfl⟩
    · rw [if_neg c]
      by_cases d : t = k
      · rw [if_pos d]; exact ⟨a, by omega, by omega, rfl⟩
      · rw [if_neg d]; exact ⟨t, t1, t2, rfl⟩
  · have key : ∀ d, a + d < n → sumN (fun t => p (outs f a (a + d) t)) n = sumN (fun t => p (f t)) n := by
      intro d
      induction d with
      | zero => intro _; rw [Nat.add_zero, outs_start]
      | succ d ih =>
        intro hd
        have e := outs_step f (a := a) (k := a + d) (by omega)
        rw [← Nat.add_assoc, sum_swp e (by omega) (by omega) p]; exact ih (by omega)
    have := key (k - a) (by omega)
    rwa [show a + (k - a) = k by omega] at this
theorem swr_sum (f : Nat → Int) {n a b : Nat} (p : Int → Int) : ∀ k, a + k ≤ b → b + k ≤ n → sumN (fun t => p (swr f a b k t)) n = sumN (fun t => p (f t)) n := by
  intro k
  induction k with
  | zero => intro _ _; rw [swr_start]
  | succ k ih =>
    intro h1 h2
    rw [sum_swp (swr_step f (by omega)) (by omega) (by omega) p]; exact ih (by omega) (by omega)
theorem rot_sum {n m : Nat} (p : Int → Int) : ∀ q i j : Nat, i + j ≤ q → i ≤ m → m + j ≤ n → ∀ f : Nat → Int, sumN (fun t => p (rot f (m - i) m (m + j) t)) n = sumN (fun t => p (f t)) n := by
  intro q
  induction q with
  | zero => intro i j h1 h2 h3 f; rw [rot_none f (by omega) (by omega) (by omega)]
  | succ q ih =>
    intro i j h1 h2 h3 f
    by_cases e0 : i = 0 ∨ j = 0
    · rw [rot_none f (by omega) (by omega) (by omega)]
    · by_cases e1 : j < i
      · rw [← rot_more f h2 e1, ih (i - j) j (by omega) (by omega) h3, swr_sum f p j (by omega) (by omega)]
      · by_cases e2 : i < j
        · rw [← rot_less f h2 e2, ih i (j - i) (by omega) h2 (by omega), swr_sum f p i (by omega) (by omega)]
        · have e3 : i = j := by omega
          subst e3
          rw [← rot_same f h2, swr_sum f p i (by omega) (by omega)]
theorem mix_rot' (f : Nat → Int) {n a m b : Nat} (h1 : a ≤ m) (h2 : m ≤ b) (h3 : b ≤ n) : Mix n a b f (rot f a m b) := by
  apply mix_rot h1 h2
  intro p
  have := rot_sum (n := n) (m := m) p ((m - a) + (b - m)) (m - a) (b - m) (Nat.le_refl _) (by omega) (by omega) f
  rwa [show m - (m - a) = a by omega, show m + (b - m) = b by omega] at this
end Go.Proofs.YtklaonoekmhakaaGreat

namespace Go.Proofs.YtklaonoekmhakaaGreat

/-- a place's key: greater rests first, of the same ones the place that stands ahead -/
def key (n : Int) (K : Nat → Int) (x : Int) : Int := x - n * K x.toNat
theorem key_lt {n : Int} {K : Nat → Int} {x y : Int} (h0 : 0 ≤ x) (h1 : x < y) (h2 : y < n) : key n K y < key n K x ↔ K x.toNat < K y.toNat := by
  unfold key
  constructor
  · intro h
    apply Int.lt_of_not_ge; intro hn
    have := Int.mul_le_mul_of_nonneg_left hn (show (0 : Int) ≤ n by omega)
    omega
  · intro h
    have := Int.mul_le_mul_of_nonneg_left (show K x.toNat + 1 ≤ K y.toNat by omega) (show (0 : Int) ≤ n by omega)
    rw [Int.mul_add] at this
    omega
theorem key_gt {n : Int} {K : Nat → Int} {x y : Int} (h0 : 0 ≤ x) (h1 : x < y) (h2 : y < n) : key n K x < key n K y ↔ ¬ K x.toNat < K y.toNat := by
  have e := key_lt (K := K) h0 h1 h2
  constructor
  · intro h hn; have := e.2 hn; omega
  · intro h
    have h3 : ¬ key n K y < key n K x := fun q => h (e.1 q)
    have h4 : key n K y ≠ key n K x := by
      unfold key
      intro q
      have : K y.toNat ≤ K x.toNat := by omega
      by_cases e2 : K y.toNat = K x.toNat
      · rw [e2] at q; omega
      · have := Int.mul_le_mul_of_nonneg_left (show K y.toNat + 1 ≤ K x.toNat by omega) (show (0 : Int) ≤ n by omega)
        rw [Int.mul_add] at this
        omega
    omega

theorem Up.le {h : Int → Int} {f : Nat → Int} {a b : Nat} (u : Up h f a b) {s t : Nat} (hs : a ≤ s) (hst : s ≤ t) (ht : t < b) : h (f s) ≤ h (f t) := by
  by_cases e : s = t
  · subst e; exact Int.le_refl _
  · exact Int.le_of_lt (u s t hs (by omega) ht)
theorem Up.sub {h : Int → Int} {f : Nat → Int} {a b a' b' : Nat} (u : Up h f a b) (ha : a ≤ a') (hb : b' ≤ b) : Up h f a' b' := fun s t h1 h2 h3 => u s t (by omega) h2 (by omega)
theorem Up.same {h : Int → Int} {f g : Nat → Int} {a b : Nat} (u : Up h f a b) (e : ∀ t, a ≤ t → t < b → g t = f t) : Up h g a b := fun s t h1 h2 h3 => by
  rw [e s h1 (by omega), e t (by omega) h3]; exact u s t h1 h2 h3
theorem Up.join {h : Int → Int} {f : Nat → Int} {a m b : Nat} (u : Up h f a m) (v : Up h f m b) (c : ∀ s t, a ≤ s → s < m → m ≤ t → t < b → h (f s) < h (f t)) : Up h f a b := fun s t h1 h2 h3 => by
  by_cases e1 : t < m
  · exact u s t h1 h2 e1
  · by_cases e2 : s < m
    · exact c s t h1 e2 (by omega) h3
    · exact v s t (by omega) h2 h3

/-- where the search by halves begins and ends -/
def beg (a m b : Nat) : Nat := if (a + b) / 2 < m then (a + b) / 2 + m - b else a
def fin (a m b : Nat) : Nat := if (a + b) / 2 < m then (a + b) / 2 else m
theorem beg_fin {a m b : Nat} (h1 : a < m) (h2 : m < b) : a ≤ beg a m b ∧ beg a m b ≤ fin a m b ∧ fin a m b ≤ m ∧ fin a m b ≤ (a + b) / 2 ∧ (a + b) / 2 + m - beg a m b ≤ b ∧ m ≤ (a + b) / 2 + m - fin a m b ∧ beg a m b ≤ (a + b) / 2 := by
  unfold beg fin
  by_cases c : (a + b) / 2 < m
  · simp only [c, if_true]; omega
  · simp only [c, if_false]; omega

/-- what the search found, up to start and from r on -/
structure Half (h : Int → Int) (f : Nat → Int) (a m b start r : Nat) : Prop where
  s0 : beg a m b ≤ start
  sr : start ≤ r
  r0 : r ≤ fin a m b
  lo : ∀ c, beg a m b ≤ c → c < start → h (f c) < h (f ((a + b) / 2 + m - 1 - c))
  hi : ∀ c, r ≤ c → c < fin a m b → h (f ((a + b) / 2 + m - 1 - c)) < h (f c)
theorem half_start {h : Int → Int} {f : Nat → Int} {a m b : Nat} (h1 : a < m) (h2 : m < b) : Half h f a m b (beg a m b) (fin a m b) :=
  have q := beg_fin h1 h2
  ⟨Nat.le_refl _, q.2.1, Nat.le_refl _, fun c c1 c2 => by omega, fun c c1 c2 => by omega⟩
theorem Half.up {h : Int → Int} {f : Nat → Int} {a m b start r c : Nat} (H : Half h f a m b start r) (h1 : a < m) (h2 : m < b) (u : Up h f a m) (v : Up h f m b) (c1 : start ≤ c) (c2 : c < r)
    (t : h (f c) < h (f ((a + b) / 2 + m - 1 - c))) : Half h f a m b (c + 1) r := by
  have q := beg_fin h1 h2
  have p1 := H.s0; have p2 := H.r0
  refine ⟨by omega, by omega, H.r0, fun d d1 d2 => ?_, H.hi⟩
  have x1 := u.le (s := d) (t := c) (by omega) (by omega) (by omega)
  have x2 := v.le (s := (a + b) / 2 + m - 1 - c) (t := (a + b) / 2 + m - 1 - d) (by omega) (by omega) (by omega)
  omega
theorem Half.down {h : Int → Int} {f : Nat → Int} {a m b start r c : Nat} (H : Half h f a m b start r) (h1 : a < m) (h2 : m < b) (u : Up h f a m) (v : Up h f m b) (c1 : start ≤ c) (c2 : c < r)
    (t : h (f ((a + b) / 2 + m - 1 - c)) < h (f c)) : Half h f a m b start c := by
  have q := beg_fin h1 h2
  have p1 := H.s0; have p2 := H.r0
  refine ⟨H.s0, c1, by omega, H.lo, fun d d1 d2 => ?_⟩
  have x1 := u.le (s := c) (t := d) (by omega) (by omega) (by omega)
  have x2 := v.le (s := (a + b) / 2 + m - 1 - d) (t := (a + b) / 2 + m - 1 - c) (by omega) (by omega) (by omega)
  omega

theorem rot_v1 {f : Nat → Int} {a m b t : Nat} (h : t < a) : rot f a m b t = f t := by unfold rot; rw [if_pos h]
theorem rot_v2 {f : Nat → Int} {a m b t : Nat} (h1 : a ≤ t) (h2 : t < a + (b - m)) : rot f a m b t = f (t + (m - a)) := by unfold rot; rw [if_neg (by omega), if_pos h2]
theorem rot_v3 {f : Nat → Int} {a m b t : Nat} (h1 : a ≤ t) (h2 : a + (b - m) ≤ t) (h3 : t < b) : rot f a m b t = f (t - (b - m)) := by unfold rot; rw [if_neg (by omega), if_neg (by omega), if_pos h3]
theorem rot_v4 {f : Nat → Int} {a m b t : Nat} (h1 : a ≤ t) (h2 : a + (b - m) ≤ t) (h3 : b ≤ t) : rot f a m b t = f t := by unfold rot; rw [if_neg (by omega), if_neg (by omega), if_neg (by omega)]

/-- both halves, behind the rotation -/
structure Halved (h : Int → Int) (g : Nat → Int) (a start mid fin b : Nat) : Prop where
  u1 : Up h g a start
  u2 : Up h g start mid
  u3 : Up h g mid fin
  u4 : Up h g fin b
  c1 : ∀ s t, a ≤ s → s < start → start ≤ t → t < mid → g s < g t
  c2 : ∀ s t, mid ≤ s → s < fin → fin ≤ t → t < b → g s < g t
  cc : ∀ s t, a ≤ s → s < mid → mid ≤ t → t < b → h (g s) < h (g t)
theorem Half.halved {h : Int → Int} {f : Nat → Int} {a m b r : Nat} (H : Half h f a m b r r) (h1 : a < m) (h2 : m < b) (u : Up h f a m) (v : Up h f m b) (o : ∀ s t, a ≤ s → s < m → m ≤ t → t < b → f s < f t) :
    Halved h (rot f r m ((a + b) / 2 + m - r)) a r ((a + b) / 2) ((a + b) / 2 + m - r) b := by
  have q := beg_fin h1 h2
  have p1 := H.s0; have p2 := H.r0
  have w1 : r + ((a + b) / 2 + m - r - m) = (a + b) / 2 := by omega
  refine ⟨fun s t s1 s2 s3 => ?_, fun s t s1 s2 s3 => ?_, fun s t s1 s2 s3 => ?_, fun s t s1 s2 s3 => ?_, fun s t s1 s2 s3 s4 => ?_, fun s t s1 s2 s3 s4 => ?_, fun s t s1 s2 s3 s4 => ?_⟩
  · rw [rot_v1 (by omega), rot_v1 (by omega)]; exact u s t (by omega) (by omega) (by omega)
  · rw [rot_v2 (by omega) (by omega), rot_v2 (by omega) (by omega)]; exact v _ _ (by omega) (by omega) (by omega)
  · rw [rot_v3 (by omega) (by omega) (by omega), rot_v3 (by omega) (by omega) (by omega)]; exact u _ _ (by omega) (by omega) (by omega)
  · rw [rot_v4 (by omega) (by omega) (by omega), rot_v4 (by omega) (by omega) (by omega)]; exact v _ _ (by omega) (by omega) (by omega)
  · rw [rot_v1 (by omega), rot_v2 (by omega) (by omega)]; exact o _ _ (by omega) (by omega) (by omega) (by omega)
  · rw [rot_v3 (by omega) (by omega) (by omega), rot_v4 (by omega) (by omega) (by omega)]; exact o _ _ (by omega) (by omega) (by omega) (by omega)
  · by_cases a1 : s < r
    · rw [rot_v1 a1]
      by_cases a2 : t < (a + b) / 2 + m - r
      · rw [rot_v3 (by omega) (by omega) a2]; exact u _ _ (by omega) (by omega) (by omega)
      · rw [rot_v4 (by omega) (by omega) (by omega)]
        have e1 : beg a m b < r := by
          unfold beg at p1 ⊢
          by_cases c : (a + b) / 2 < m
          · simp only [c, if_true] at p1 ⊢; omega
          · simp only [c, if_false] at p1 ⊢; omega
        have e2 := H.lo (r - 1) (by omega) (by omega)
        rw [show (a + b) / 2 + m - 1 - (r - 1) = (a + b) / 2 + m - r by omega] at e2
        have x1 := u.le (s := s) (t := r - 1) (by omega) (by omega) (by omega)
        have x2 := v.le (s := (a + b) / 2 + m - r) (t := t) (by omega) (by omega) (by omega)
        omega
    · rw [rot_v2 (by omega) (by omega)]
      by_cases a2 : t < (a + b) / 2 + m - r
      · rw [rot_v3 (by omega) (by omega) a2]
        have e1 : r < fin a m b := by
          unfold fin at p2 ⊢
          by_cases c : (a + b) / 2 < m
          · simp only [c, if_true] at p2 ⊢; omega
          · simp only [c, if_false] at p2 ⊢; omega
        have e2 := H.hi r (by omega) (by omega)
        have x1 := v.le (s := s + (m - r)) (t := (a + b) / 2 + m - 1 - r) (by omega) (by omega) (by omega)
        have x2 := u.le (s := r) (t := t - ((a + b) / 2 + m - r - m)) (by omega) (by omega) (by omega)
        omega
      · rw [rot_v4 (by omega) (by omega) (by omega)]; exact v _ _ (by omega) (by omega) (by omega)

/-- two halves put in order, each by itself: the whole -/
theorem Halved.done {h : Int → Int} {n : Nat} {g g1 g2 : Nat → Int} {a start mid fin b : Nat} (H : Halved h g a start mid fin b) (m1 : Mix n a mid g g1) (u1 : Up h g1 a mid) (m2 : Mix n mid b g1 g2) (u2 : Up h g2 mid b) : Up h g2 a b := by
  refine Up.join (u1.same fun t t1 t2 => m2.out t (by omega)) u2 fun s t s1 s2 t1 t2 => ?_
  rw [m2.out s (by omega)]
  obtain ⟨s', q1, q2, q3⟩ := m1.old s s1 s2
  obtain ⟨t', r1, r2, r3⟩ := m2.old t t1 t2
  rw [q3, r3, m1.out t' (by omega)]
  exact H.cc s' t' q1 q2 r1 r2

/-- a search by halves in one row: the place that a key has there -/
structure Seek (P : Nat → Prop) (a b i j : Nat) : Prop where
  i0 : a ≤ i
  ij : i ≤ j
  j0 : j ≤ b
  lo : ∀ t, a ≤ t → t < i → P t
  hi : ∀ t, j ≤ t → t < b → ¬ P t
end Go.Proofs.YtklaonoekmhakaaGreat

namespace Go.Proofs.YtklaonoekmhakaaGreat
open Go.RowKit

def cmpV (x y : Int) : Int := if x < y then -1 else if y < x then 1 else 0
theorem cmpV_neg {x y : Int} : cmpV x y < 0 ↔ x < y := by
  unfold cmpV; split
  · simp_all
  · split <;> simp_all <;> omega

theorem isNaN_any (x : Int) (w : World) : Calls Tryz.prog 158 #[.int .i64 x] w fun e w' => e = .returned (.bool false) ∧ w = w' := by
  go_enter Tryz.func158, Tryz.ntmps158
  go_wp2
  go_ret
  exact ⟨rfl, rfl⟩

set_option maxHeartbeats 400000 in
theorem compare_any (x y : Int) (w : World) : Calls Tryz.prog 154 #[.int .i64 x, .int .i64 y] w fun e w' => e = .returned (.int .i64 (cmpV x y)) ∧ w = w' := by
  by_cases h1 : x < y
  · have e : cmpV x y = -1 := by simp [cmpV, h1]
    rw [e]; clear e
    go_enter Tryz.func154, Tryz.ntmps154
    go_wp2_with (first | (go_at_call 158; refine (isNaN_any _ _).mono ?_; rintro e w' ⟨rfl, rfl⟩))
    go_ret
    exact ⟨rfl, rfl⟩
  · by_cases h2 : y < x
    · have e : cmpV x y = 1 := by simp [cmpV, h1, h2]
      rw [e]; clear e
      go_enter Tryz.func154, Tryz.ntmps154
      go_wp2_with (first | (go_at_call 158; refine (isNaN_any _ _).mono ?_; rintro e w' ⟨rfl, rfl⟩))
      go_ret
      exact ⟨rfl, rfl⟩
    · have e : cmpV x y = 0 := by simp [cmpV, h1, h2]
      rw [e]; clear e
      go_enter Tryz.func154, Tryz.ntmps154
      go_wp2_with (first | (go_at_call 158; refine (isNaN_any _ _).mono ?_; rintro e w' ⟨rfl, rfl⟩))
      go_ret
      exact ⟨rfl, rfl⟩

/-- the rests, in a box and a block of their own -/
def Rests (W : World) (rb g n : Nat) (K : Nat → Int) : Prop :=
  W.cell? ⟨rb, 0, none⟩ = some (.slice (some ⟨g, 0, none⟩) n n) ∧ ∀ t, t < n → W.cell? ⟨g, t, none⟩ = some (.int .i64 (K t))

set_option maxHeartbeats 400000 in
theorem by_rest {W : World} {rb g n : Nat} {K : Nat → Int} (h : Rests W rb g n K) (x y : Int) (x0 : 0 ≤ x) (x1 : x < n) (y0 : 0 ≤ y) (y1 : y < n) :
    Calls Tryz.prog 153 #[.int .i64 x, .int .i64 y, .pointer (some ⟨rb, 0, none⟩)] W fun e w' => e = .returned (.int .i64 (cmpV (K y.toNat) (K x.toNat))) ∧ ∃ q, w' = W.drewN q := by
  have hb := h.1
  have hx : W.cell? ⟨g, x.toNat, none⟩ = some (.int .i64 (K x.toNat)) := h.2 _ (by omega)
  have hy : W.cell? ⟨g, y.toNat, none⟩ = some (.int .i64 (K y.toNat)) := h.2 _ (by omega)
  clear h
  go_enter Tryz.func153, Tryz.ntmps153
  go_wp2_with fail
  go_quiet (first | (go_at_call 154; with_reducible exact quiet_left (compare_any _ _ _)))
  go_wp2_with fail
  go_ret
  exact ⟨rfl, nq, rfl⟩

/-- a row of integers that may be written -/
def Ints (W : World) (b n : Nat) (f : Nat → Int) : Prop := ∀ t, t < n → W.cell? ⟨b, t, none⟩ = some (.int .i64 (f t)) ∧ W.frozen? ⟨b, t, none⟩ = false
/-- but for one block a world as it was -/
structure But (b : Nat) (w w' : World) : Prop where
  os : w'.os = w.os
  tape : w'.tape = w.tape
  output : w'.output = w.output
  size : w'.heap.size = w.heap.size
  block : ∀ k, k ≠ b → w'.heap[k]? = w.heap[k]?
theorem But.refl (b : Nat) (w : World) : But b w w := ⟨rfl, rfl, rfl, rfl, fun _ _ => rfl⟩
theorem But.trans {b : Nat} {x y z : World} (h : But b x y) (k : But b y z) : But b x z :=
  ⟨k.os.trans h.os, k.tape.trans h.tape, k.output.trans h.output, k.size.trans h.size, fun i hi => (k.block i hi).trans (h.block i hi)⟩
theorem But.drewN {b : Nat} {x y : World} (h : But b x y) (n : Nat) : But b x (y.drewN n) := ⟨h.os, h.tape, h.output, h.size, h.block⟩
theorem But.drew {b : Nat} {x y : World} (h : But b x y) : But b x y.drew := ⟨h.os, h.tape, h.output, h.size, h.block⟩
theorem But.set {b : Nat} {x y : World} (h : But b x y) (t : Nat) (u : Value) : But b x (y.setCell ⟨b, t, none⟩ u) :=
  h.trans ⟨rfl, rfl, rfl, by simp [World.setCell], fun k hk => Below.heap_setCell _ _ _ _ hk⟩
theorem But.cell {b : Nat} {x y : World} (h : But b x y) {p : Addr} (hp : p.block ≠ b) : y.cell? p = x.cell? p := World.cell?_of_block (w := x) (h.block p.block hp)
theorem But.frozen {b : Nat} {x y : World} (h : But b x y) {p : Addr} (hp : p.block ≠ b) : y.frozen? p = x.frozen? p := World.frozen?_of_block (w := x) (h.block p.block hp)
theorem But.below {b B : Nat} {x y : World} (h : But b x y) (hb : B ≤ b) : Below B x y := ⟨h.os, h.tape, h.output, Nat.le_of_eq h.size.symm, fun k hk => h.block k (by omega)⟩
theorem Rests.but {b : Nat} {x y : World} {rb g n : Nat} {K : Nat → Int} (h : Rests x rb g n K) (k : But b x y) (h1 : rb ≠ b) (h2 : g ≠ b) : Rests y rb g n K :=
  ⟨(k.cell (p := ⟨rb, 0, none⟩) h1).trans h.1, fun t ht => (k.cell (p := ⟨g, t, none⟩) h2).trans (h.2 t ht)⟩

/-- the worlds of a sort: a row of places, beside the rests that it goes by -/
structure SW (w : World) (b n rb g : Nat) (K : Nat → Int) (f : Nat → Int) (W : World) : Prop where
  but : But b w W
  ints : Ints W b n f
  rests : Rests W rb g n K
  r1 : rb ≠ b
  r2 : g ≠ b
  fit : ∀ t, t < n → 0 ≤ f t ∧ f t < n
  small : n ≤ 1000000
variable {w W : World} {b n rb g : Nat} {K f : Nat → Int}
theorem SW.drewN (h : SW w b n rb g K f W) (q : Nat) : SW w b n rb g K f (W.drewN q) :=
  ⟨h.but.drewN q, h.ints, h.rests, h.r1, h.r2, h.fit, h.small⟩
theorem SW.cell (h : SW w b n rb g K f W) {t : Nat} (ht : t < n) : W.cell? ⟨b, t, none⟩ = some (.int .i64 (f t)) := (h.ints t ht).1
theorem SW.free (h : SW w b n rb g K f W) {t : Nat} (ht : t < n) : W.frozen? ⟨b, t, none⟩ = false := (h.ints t ht).2
theorem SW.cmp (h : SW w b n rb g K f W) {s t : Nat} (hs : s < n) (ht : t < n) (q : Nat) :
    Calls Tryz.prog 153 #[.int .i64 (f s), .int .i64 (f t), .pointer (some ⟨rb, 0, none⟩)] (W.drewN q) fun e w' => e = .returned (.int .i64 (cmpV (K (f t).toNat) (K (f s).toNat))) ∧ ∃ m, w' = W.drewN m := by
  have h1 := h.fit s hs; have h2 := h.fit t ht
  refine (by_rest (h.drewN q).rests (f s) (f t) h1.1 h1.2 h2.1 h2.2).mono ?_
  rintro e w' ⟨he, m, hm⟩
  exact ⟨he, q + m, by rw [hm]; simp [World.drewN, Nat.add_assoc]⟩
theorem ints_set (h : Ints W b n f) {t : Nat} (ht : t < n) (v : Int) : Ints (W.setCell ⟨b, t, none⟩ (.int .i64 v)) b n (fun s => if s = t then v else f s) := by
  intro s hs
  refine ⟨?_, by rw [World.frozen?_setCell]; exact (h s hs).2⟩
  by_cases e : s = t
  · subst e
    rw [World.cell?_setCell_same' _ _ _ (by rw [(h s hs).1]; rfl)]; simp
  · rw [World.cell?_setCell_other _ _ _ _ (by intro q; injection q; omega)]; simp only [if_neg e]; exact (h s hs).1
theorem SW.swp (h : SW w b n rb g K f W) {i j : Nat} (hi : i < n) (hj : j < n) (hne : i ≠ j) :
    SW w b n rb g K (swp f i j) ((W.drew.setCell ⟨b, i, none⟩ (.int .i64 (f j))).setCell ⟨b, j, none⟩ (.int .i64 (f i))) := by
  have hW : SW w b n rb g K f W.drew := ⟨h.but.drew, h.ints, h.rests, h.r1, h.r2, h.fit, h.small⟩
  have k : But b W.drew ((W.drew.setCell ⟨b, i, none⟩ (.int .i64 (f j))).setCell ⟨b, j, none⟩ (.int .i64 (f i))) := ((But.refl b _).set _ _).set _ _
  refine ⟨hW.but.trans k, ?_, hW.rests.but k h.r1 h.r2, h.r1, h.r2, ?_, h.small⟩
  · have := ints_set (ints_set hW.ints hi (f j)) hj (f i)
    intro s hs
    have q := this s hs
    unfold YtklaonoekmhakaaGreat.swp
    by_cases e1 : s = i
    · simp only [e1, if_true] at q ⊢
      simpa [hne] using q
    · by_cases e2 : s = j
      · have e3 : ¬ j = i := fun q => hne q.symm
        simpa [e2, e3] using q
      · simpa [e1, e2] using q
  · intro t ht
    unfold YtklaonoekmhakaaGreat.swp
    split
    · exact h.fit _ hj
    · split
      · exact h.fit _ hi
      · exact h.fit _ ht
end Go.Proofs.YtklaonoekmhakaaGreat
