/- Plain facts of two rows in order that become one: a search by halves, and what is rotated. -/
import Derived.Test.YtbcdfkcgcaifjaaSoMath
namespace Go.Proofs.Ytbcdfkcgcaifjaa

/-- a place's key: greater rests first, of the same ones the place that stands ahead -/
def key (n : Int) (K : Nat → Int) (x : Int) : Int := x - n * K x.toNat
theorem key_lt {n : Int} {K : Nat → Int} {x y : Int} (h0 : 0 ≤ x) (h1 : x < y) (h2 : y < n) : key n K y < key n K x ↔ K x.toNat < K y.toNat := by
  unfold key
  constructor
  · intro h
    apply Int.lt_of_not_ge; intro hn
    have := Int.mul_le_mul_of_nonneg_left hn (show (0 : Int) ≤ n by omega)
    omega
  · intro h
    have := Int.mul_le_mul_of_nonneg_left (show K x.toNat + 1 ≤ K y.toNat by omega) (show (0 : Int) ≤ n by omega)
    rw [Int.mul_add] at this
    omega
theorem key_gt {n : Int} {K : Nat → Int} {x y : Int} (h0 : 0 ≤ x) (h1 : x < y) (h2 : y < n) : key n K x < key n K y ↔ ¬ K x.toNat < K y.toNat := by
  have e := key_lt (K := K) h0 h1 h2
  constructor
  · intro h hn; have := e.2 hn; omega
  · intro h
    have h3 : ¬ key n K y < key n K x := fun q => h (e.1 q)
    have h4 : key n K y ≠ key n K x := by
      unfold key
      intro q
      have : K y.toNat ≤ K x.toNat := by omega
      by_cases e2 : K y.toNat = K x.toNat
      · rw [e2] at q; omega
      · have := Int.mul_le_mul_of_nonneg_left (show K y.toNat + 1 ≤ K x.toNat by omega) (show (0 : Int) ≤ n by omega)
        rw [Int.mul_add] at this
        omega
    omega

theorem Up.le {h : Int → Int} {f : Nat → Int} {a b : Nat} (u : Up h f a b) {s t : Nat} (hs : a ≤ s) (hst : s ≤ t) (ht : t < b) : h (f s) ≤ h (f t) := by
  by_cases e : s = t
  · subst e; exact Int.le_refl _
  · exact Int.le_of_lt (u s t hs (by omega) ht)
theorem Up.sub {h : Int → Int} {f : Nat → Int} {a b a' b' : Nat} (u : Up h f a b) (ha : a ≤ a') (hb : b' ≤ b) : Up h f a' b' := fun s t h1 h2 h3 => u s t (by omega) h2 (by omega)
theorem Up.same {h : Int → Int} {f g : Nat → Int} {a b : Nat} (u : Up h f a b) (e : ∀ t, a ≤ t → t < b → g t = f t) : Up h g a b := fun s t h1 h2 h3 => by
  rw [e s h1 (by omega), e t (by omega) h3]; exact u s t h1 h2 h3
theorem Up.join {h : Int → Int} {f : Nat → Int} {a m b : Nat} (u : Up h f a m) (v : Up h f m b) (c : ∀ s t, a ≤ s → s < m → m ≤ t → t < b → h (f s) < h (f t)) : Up h f a b := fun s t h1 h2 h3 => by
  by_cases e1 : t < m
  · exact u s t h1 h2 e1
  · by_cases e2 : s < m
    · exact c s t h1 e2 (by omega) h3
    · exact v s t (by omega) h2 h3

/-- where the search by halves begins and ends -/
def beg (a m b : Nat) : Nat := if (a + b) / 2 < m then (a + b) / 2 + m - b else a
def fin (a m b : Nat) : Nat := if (a + b) / 2 < m then (a + b) / 2 else m
theorem beg_fin {a m b : Nat} (h1 : a < m) (h2 : m < b) : a ≤ beg a m b ∧ beg a m b ≤ fin a m b ∧ fin a m b ≤ m ∧ fin a m b ≤ (a + b) / 2 ∧ (a + b) / 2 + m - beg a m b ≤ b ∧ m ≤ (a + b) / 2 + m - fin a m b ∧ beg a m b ≤ (a + b) / 2 := by
  unfold beg fin
  by_cases c : (a + b) / 2 < m
  · simp only [c, if_true]; omega
  · simp only [c, if_false]; omega

/-- what the search found, up to start and from r on -/
structure Half (h : Int → Int) (f : Nat → Int) (a m b start r : Nat) : Prop where
  s0 : beg a m b ≤ start
  sr : start ≤ r
  r0 : r ≤ fin a m b
  lo : ∀ c, beg a m b ≤ c → c < start → h (f c) < h (f ((a + b) / 2 + m - 1 - c))
  hi : ∀ c, r ≤ c → c < fin a m b → h (f ((a + b) / 2 + m - 1 - c)) < h (f c)
theorem half_start {h : Int → Int} {f : Nat → Int} {a m b : Nat} (h1 : a < m) (h2 : m < b) : Half h f a m b (beg a m b) (fin a m b) :=
  have q := beg_fin h1 h2
  ⟨Nat.le_refl _, q.2.1, Nat.le_refl _, fun c c1 c2 => by omega, fun c c1 c2 => by omega⟩
theorem Half.up {h : Int → Int} {f : Nat → Int} {a m b start r c : Nat} (H : Half h f a m b start r) (h1 : a < m) (h2 : m < b) (u : Up h f a m) (v : Up h f m b) (c1 : start ≤ c) (c2 : c < r)
    (t : h (f c) < h (f ((a + b) / 2 + m - 1 - c))) : Half h f a m b (c + 1) r := by
  have q := beg_fin h1 h2
  have p1 := H.s0; have p2 := H.r0
  refine ⟨by omega, by omega, H.r0, fun d d1 d2 => ?_, H.hi⟩
  have x1 := u.le (s := d) (t := c) (by omega) (by omega) (by omega)
  have x2 := v.le (s := (a + b) / 2 + m - 1 - c) (t := (a + b) / 2 + m - 1 - d) (by omega) (by omega) (by omega)
  omega
theorem Half.down {h : Int → Int} {f : Nat → Int} {a m b start r c : Nat} (H : Half h f a m b start r) (h1 : a < m) (h2 : m < b) (u : Up h f a m) (v : Up h f m b) (c1 : start ≤ c) (c2 : c < r)
    (t : h (f ((a + b) / 2 + m - 1 - c)) < h (f c)) : Half h f a m b start c := by
  have q := beg_fin h1 h2
  have p1 := H.s0; have p2 := H.r0
  refine ⟨H.s0, c1, by omega, H.lo, fun d d1 d2 => ?_⟩
  have x1 := u.le (s := c) (t := d) (by omega) (by omega) (by omega)
  have x2 := v.le (s := (a + b) / 2 + m - 1 - d) (t := (a + b) / 2 + m - 1 - c) (by omega) (by omega) (by omega)
  omega

theorem rot_v1 {f : Nat → Int} {a m b t : Nat} (h : t < a) : rot f a m b t = f t := by unfold rot; rw [if_pos h]
theorem rot_v2 {f : Nat → Int} {a m b t : Nat} (h1 : a ≤ t) (h2 : t < a + (b - m)) : rot f a m b t = f (t + (m - a)) := by unfold rot; rw [if_neg (by omega), if_pos h2]
theorem rot_v3 {f : Nat → Int} {a m b t : Nat} (h1 : a ≤ t) (h2 : a + (b - m) ≤ t) (h3 : t < b) : rot f a m b t = f (t - (b - m)) := by unfold rot; rw [if_neg (by omega), if_neg (by omega), if_pos h3]
theorem rot_v4 {f : Nat → Int} {a m b t : Nat} (h1 : a ≤ t) (h2 : a + (b - m) ≤ t) (h3 : b ≤ t) : rot f a m b t = f t := by unfold rot; rw [if_neg (by omega), if_neg (by omega), if_neg (by omega)]

/-- both halves, behind the rotation -/
structure Halved (h : Int → Int) (g : Nat → Int) (a start mid fin b : Nat) : Prop where
  u1 : Up h g a start
  u2 : Up h g start mid
  u3 : Up h g mid fin
  u4 : Up h g fin b
  c1 : ∀ s t, a ≤ s → s < start → start ≤ t → t < mid → g s < g t
  c2 : ∀ s t, mid ≤ s → s < fin → fin ≤ t → t < b → g s < g t
  cc : ∀ s t, a ≤ s → s < mid → mid ≤ t → t < b → h (g s) < h (g t)
theorem Half.halved {h : Int → Int} {f : Nat → Int} {a m b r : Nat} (H : Half h f a m b r r) (h1 : a < m) (h2 : m < b) (u : Up h f a m) (v : Up h f m b) (o : ∀ s t, a ≤ s → s < m → m ≤ t → t < b → f s < f t) :
    Halved h (rot f r m ((a + b) / 2 + m - r)) a r ((a + b) / 2) ((a + b) / 2 + m - r) b := by
  have q := beg_fin h1 h2
  have p1 := H.s0; have p2 := H.r0
  have w1 : r + ((a + b) / 2 + m - r - m) = (a + b) / 2 := by omega
  refine ⟨fun s t s1 s2 s3 => ?_, fun s t s1 s2 s3 => ?_, fun s t s1 s2 s3 => ?_, fun s t s1 s2 s3 => ?_, fun s t s1 s2 s3 s4 => ?_, fun s t s1 s2 s3 s4 => ?_, fun s t s1 s2 s3 s4 => ?_⟩
  · rw [rot_v1 (by omega), rot_v1 (by omega)]; exact u s t (by omega) (by omega) (by omega)
  · rw [rot_v2 (by omega) (by omega), rot_v2 (by omega) (by omega)]; exact v _ _ (by omega) (by omega) (by omega)
  · rw [rot_v3 (by omega) (by omega) (by omega), rot_v3 (by omega) (by omega) (by omega)]; exact u _ _ (by omega) (by omega) (by omega)
  · rw [rot_v4 (by omega) (by omega) (by omega), rot_v4 (by omega) (by omega) (by omega)]; exact v _ _ (by omega) (by omega) (by omega)
  · rw [rot_v1 (by omega), rot_v2 (by omega) (by omega)]; exact o _ _ (by omega) (by omega) (by omega) (by omega)
  · rw [rot_v3 (by omega) (by omega) (by omega), rot_v4 (by omega) (by omega) (by omega)]; exact o _ _ (by omega) (by omega) (by omega) (by omega)
  · by_cases a1 : s < r
    · rw [rot_v1 a1]
      by_cases a2 : t < (a + b) / 2 + m - r
      · rw [rot_v3 (by omega) (by omega) a2]; exact u _ _ (by omega) (by omega) (by omega)
      · rw [rot_v4 (by omega) (by omega) (by omega)]
        have e1 : beg a m b < r := by
          unfold beg at p1 ⊢
          by_cases c : (a + b) / 2 < m
          · simp only [c, if_true] at p1 ⊢; omega
          · simp only [c, if_false] at p1 ⊢; omega
        have e2 := H.lo (r - 1) (by omega) (by omega)
        rw [show (a + b) / 2 + m - 1 - (r - 1) = (a + b) / 2 + m - r by omega] at e2
        have x1 := u.le (s := s) (t := r - 1) (by omega) (by omega) (by omega)
        have x2 := v.le (s := (a + b) / 2 + m - r) (t := t) (by omega) (by omega) (by omega)
        omega
    · rw [rot_v2 (by omega) (by omega)]
      by_cases a2 : t < (a + b) / 2 + m - r
      · rw [rot_v3 (by omega) (by omega) a2]
        have e1 : r < fin a m b := by
          unfold fin at p2 ⊢
          by_cases c : (a + b) / 2 < m
          · simp only [c, if_true] at p2 ⊢; omega
          · simp only [c, if_false] at p2 ⊢; omega
        have e2 := H.hi r (by omega) (by omega)
        have x1 := v.le (s := s + (m - r)) (t := (a + b) / 2 + m - 1 - r) (by omega) (by omega) (by omega)
        have x2 := u.le (s := r) (t := t - ((a + b) / 2 + m - r - m)) (by omega) (by omega) (by omega)
        omega
      · rw [rot_v4 (by omega) (by omega) (by omega)]; exact v _ _ (by omega) (by omega) (by omega)

/-- two halves put in order, each by itself: the whole -/
theorem Halved.done {h : Int → Int} {n : Nat} {g g1 g2 : Nat → Int} {a start mid fin b : Nat} (H : Halved h g a start mid fin b) (m1 : Mix n a mid g g1) (u1 : Up h g1 a mid) (m2 : Mix n mid b g1 g2) (u2 : Up h g2 mid b) : Up h g2 a b := by
  refine Up.join (u1.same fun t t1 t2 => m2.out t (by omega)) u2 fun s t s1 s2 t1 t2 => ?_
  rw [m2.out s (by omega)]
  obtain ⟨s', q1, q2, q3⟩ := m1.old s s1 s2
  obtain ⟨t', r1, r2, r3⟩ := m2.old t t1 t2
  rw [q3, r3, m1.out t' (by omega)]
  exact H.cc s' t' q1 q2 r1 r2

/-- a search by halves in one row: the place that a key has there -/
structure Seek (P : Nat → Prop) (a b i j : Nat) : Prop where
  i0 : a ≤ i
  ij : i ≤ j
  j0 : j ≤ b
  lo : ∀ t, a ≤ t → t < i → P t
  hi : ∀ t, j ≤ t → t < b → ¬ P t
theorem seek_start {P : Nat → Prop} {a b : Nat} (h : a ≤ b) : Seek P a b a b := ⟨Nat.le_refl _, h, Nat.le_refl _, fun t t1 t2 => by omega, fun t t1 t2 => by omega⟩
end Go.Proofs.Ytbcdfkcgcaifjaa
