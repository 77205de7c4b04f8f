/- Plain facts of parts, rests, and who gets one more. -/
import Derived.Test.YtklaonoekmhakaaGreatSoCmp
import Derived.Test.YtklaonoekmhakaaGreatSoStep
namespace Go.Proofs.YtklaonoekmhakaaGreat

/-- a piece in order, of the places that stood in it -/
def Piece (n : Nat) (K h : Nat → Int) (lo hi : Nat) : Prop := Up (key n K) h lo hi ∧ ∀ t, lo ≤ t → t < hi → (lo : Int) ≤ h t ∧ h t < hi
def SameSum (n : Nat) (h : Nat → Int) : Prop := ∀ p : Int → Int, sumN (fun t => p (h t)) n = sumN (fun t => p (t : Int)) n

theorem sumN_one (j n : Nat) : sumN (fun i => if i = j then 1 else 0) n = if j < n then 1 else 0 := by
  induction n with
  | zero => rfl
  | succ n ih =>
    simp only [sumN, ih]
    by_cases h1 : j < n
    · rw [if_pos h1, if_neg (by omega), if_pos (by omega)]; rfl
    · rw [if_neg h1]
      by_cases h2 : n = j
      · rw [if_pos h2, if_pos (by omega)]; rfl
      · rw [if_neg h2, if_neg (by omega)]; rfl
theorem sumN_below (j n : Nat) (h : j ≤ n) : sumN (fun i => if i < j then 1 else 0) n = j := by
  induction n with
  | zero => have : j = 0 := by omega
            subst this; rfl
  | succ n ih =>
    simp only [sumN]
    by_cases h1 : j = n + 1
    · subst h1
      rw [if_pos (by omega), sumN_congr (g := fun i => if i < n then 1 else 0) (fun t ht => by rw [if_pos (by omega), if_pos ht])]
      have : ∀ m, sumN (fun i => if i < m then 1 else 0) m = (m : Int) := by
        intro m
        have e : sumN (fun i => if i < m then 1 else 0) m = sumN (fun _ => 1) m := sumN_congr fun t ht => by rw [if_pos ht]
        rw [e]
        clear e
        induction m with
        | zero => rfl
        | succ m ihm => simp only [sumN, ihm]; omega
      rw [this n]; omega
    · rw [ih (by omega), if_neg (by omega)]; omega

def rankV (n : Nat) (K : Nat → Int) (t : Nat) : Int := sumN (fun k => if key n K k < key n K t then 1 else 0) n
theorem rank_of {n : Nat} {K h : Nat → Int} (p : Piece n K h 0 n) (s : SameSum n h) {t : Nat} (ht : t < n) : ∃ j, j < n ∧ h j = t ∧ rankV n K t = j ∧ ∀ i, i < n → (h i = t ↔ i = j) := by
  have e1 := s (fun x => if x = (t : Int) then 1 else 0)
  have e2 : sumN (fun k : Nat => if (k : Int) = (t : Int) then 1 else 0) n = 1 := by
    rw [sumN_congr (g := fun i => if i = t then 1 else 0) (fun i _ => by by_cases q : i = t <;> simp [q] <;> omega), sumN_one, if_pos ht]
  rw [e2] at e1
  have e3 : ∃ j, j < n ∧ h j = t := by
    apply Classical.byContradiction
    intro hn
    rw [sumN_zero (fun i hi => if_neg (fun q => hn ⟨i, hi, q⟩))] at e1
    omega
  obtain ⟨j, hj, hjt⟩ := e3
  have lt : ∀ i, i < n → (key n K (h i) < key n K t ↔ i < j) := by
    intro i hi
    rw [← hjt]
    constructor
    · intro q
      apply Nat.lt_of_not_le; intro q2
      have := p.1.le (s := j) (t := i) (Nat.zero_le _) q2 hi
      omega
    · intro q; exact p.1 i j (Nat.zero_le _) q hj
  refine ⟨j, hj, hjt, ?_, fun i hi => ⟨fun q => ?_, fun q => by rw [q]; exact hjt⟩⟩
  · have e4 := s (fun x => if key n K x < key n K t then 1 else 0)
    unfold rankV
    rw [← e4, sumN_congr (g := fun i => if i < j then 1 else 0) (fun i hi => by
      by_cases q : i < j
      · rw [if_pos ((lt i hi).2 q), if_pos q]
      · rw [if_neg (fun r => q ((lt i hi).1 r)), if_neg q]), sumN_below j n (by omega)]
  · apply Classical.byContradiction
    intro hn
    by_cases q2 : i < j
    · have := (lt i hi).2 q2; rw [q] at this; omega
    · have := p.1 j i (Nat.zero_le _) (by omega) hi; rw [q, hjt] at this; omega

/-- how often a place is told among the first ones -/
def toldV (h : Nat → Int) (m t : Nat) : Int := sumN (fun i => if h i = (t : Int) then 1 else 0) m
theorem told_is {n m : Nat} {K h : Nat → Int} (p : Piece n K h 0 n) (s : SameSum n h) (hm : m ≤ n) {t : Nat} (ht : t < n) : toldV h m t = if rankV n K t < m then 1 else 0 := by
  obtain ⟨j, hj, hjt, hr, hu⟩ := rank_of p s ht
  unfold toldV
  rw [sumN_congr (g := fun i => if i = j then 1 else 0) (fun i hi => by
    by_cases q : i = j
    · rw [if_pos ((hu i (by omega)).2 q), if_pos q]
    · rw [if_neg (fun r => q ((hu i (by omega)).1 r)), if_neg q]), sumN_one, hr]
  by_cases q : j < m
  · rw [if_pos q, if_pos (by omega)]
  · rw [if_neg q, if_neg (by omega)]
/-- as many are told as there are -/
theorem told_sum {n m : Nat} {K h : Nat → Int} (p : Piece n K h 0 n) (s : SameSum n h) (hm : m ≤ n) : sumN (fun t => if rankV n K t < m then 1 else 0) n = m := by
  have e := s (fun x => if rankV n K x.toNat < m then 1 else 0)
  simp only [Int.toNat_natCast] at e
  rw [← e, sumN_congr (g := fun i => if i < m then 1 else 0) (fun i hi => by
    have b := p.2 i (Nat.zero_le _) hi
    obtain ⟨j, hj, hjt, hr, hu⟩ := rank_of p s (t := (h i).toNat) (by omega)
    have : i = j := (hu i hi).1 (by omega)
    rw [hr, ← this]
    by_cases q : i < m
    · rw [if_pos q, if_pos (by omega)]
    · rw [if_neg q, if_neg (by omega)]), sumN_below m n hm]

def partV (size : Int) (f : Nat → Int) (s : Int) (k : Nat) : Int := size * f k / s
def restV (size : Int) (f : Nat → Int) (s : Int) (k : Nat) : Int := size * f k % s
def missV (size : Int) (f : Nat → Int) (s : Int) (n : Nat) : Int := size - sumN (partV size f s) n
def shareV (size : Int) (f : Nat → Int) (s : Int) (n : Nat) (t : Nat) : Int := partV size f s t + if rankV n (restV size f s) t < missV size f s n then 1 else 0

/-- what is asked of weights -/
structure Weights (f : Nat → Int) (n : Nat) (s : Int) : Prop where
  pos : ∀ k, k < n → 0 ≤ f k
  sum : sumN f n = s
  s0 : 0 < s
variable {size s : Int} {f : Nat → Int} {n : Nat}
theorem sumN_pos {f : Nat → Int} {n : Nat} (h : ∀ k, k < n → 0 ≤ f k) : 0 ≤ sumN f n := by
  have := sumN_le (f := fun _ => 0) (g := f) (n := n) h
  rwa [sumN_zero (fun _ _ => rfl)] at this
theorem sumN_mono {f : Nat → Int} {k n : Nat} (h : ∀ i, i < n → 0 ≤ f i) (hk : k ≤ n) : sumN f k ≤ sumN f n := by
  induction n with
  | zero => have : k = 0 := by omega
            subst this; exact Int.le_refl _
  | succ n ih =>
    by_cases e : k = n + 1
    · subst e; exact Int.le_refl _
    · have := ih (fun i hi => h i (by omega)) (by omega); have := h n (by omega); simp only [sumN]; omega
theorem sumN_term {f : Nat → Int} {t n : Nat} (h : ∀ i, i < n → 0 ≤ f i) (ht : t < n) : f t ≤ sumN f n := by
  have a := sumN_mono h (show t + 1 ≤ n by omega)
  have b := sumN_pos (f := f) (n := t) (fun i hi => h i (by omega))
  simp only [sumN] at a; omega
theorem Weights.n0 (W : Weights f n s) : 0 < n := by
  cases n with
  | zero => have := W.sum; have := W.s0; simp [sumN] at *; omega
  | succ n => omega
theorem Weights.part0 (W : Weights f n s) (h : 0 ≤ size) {k : Nat} (hk : k < n) : 0 ≤ partV size f s k := Int.ediv_nonneg (Int.mul_nonneg h (W.pos k hk)) (Int.le_of_lt W.s0)
theorem Weights.rest0 (W : Weights f n s) (k : Nat) : 0 ≤ restV size f s k ∧ restV size f s k < s :=
  ⟨Int.emod_nonneg _ (by have := W.s0; omega), Int.emod_lt_of_pos _ W.s0⟩
theorem pr_eq (k : Nat) : s * partV size f s k + restV size f s k = size * f k := Int.mul_ediv_add_emod _ _
theorem sum_pr (n : Nat) : s * sumN (partV size f s) n + sumN (restV size f s) n = size * sumN f n := by
  rw [← sumN_mul, ← sumN_mul, ← sumN_add]
  exact sumN_congr fun t _ => pr_eq t
theorem Weights.miss (W : Weights f n s) : s * missV size f s n = sumN (restV size f s) n := by
  have := sum_pr (size := size) (f := f) (s := s) n
  rw [W.sum] at this
  unfold missV
  rw [Int.mul_sub, Int.mul_comm s size]; omega
theorem Weights.miss0 (W : Weights f n s) : 0 ≤ missV size f s n := by
  have h := W.miss (size := size)
  have p := sumN_pos (f := restV size f s) (n := n) fun k _ => (W.rest0 k).1
  apply Int.le_of_not_gt; intro q
  have := Int.mul_le_mul_of_nonneg_left (show missV size f s n ≤ -1 by omega) (Int.le_of_lt W.s0)
  have := W.s0
  omega
theorem Weights.miss1 (W : Weights f n s) : missV size f s n < n := by
  have h := W.miss (size := size)
  have p := sumN_le (f := restV size f s) (g := fun _ => s - 1) (n := n) fun k _ => by have := (W.rest0 (size := size) k).2; omega
  have e : ∀ m : Nat, sumN (fun _ => s - 1) m = (m : Int) * (s - 1) := by
    intro m
    induction m with
    | zero => simp [sumN]
    | succ m ih => simp only [sumN, ih]; rw [show ((m + 1 : Nat) : Int) = (m : Int) + 1 by omega, Int.add_mul]; omega
  rw [e n, Int.mul_sub, Int.mul_comm (n : Int) s] at p
  apply Int.lt_of_not_ge; intro q
  have := Int.mul_le_mul_of_nonneg_left q (Int.le_of_lt W.s0)
  have := W.n0
  omega
/-- what is left, round by round -/
theorem Weights.left (W : Weights f n s) (h : 0 ≤ size) {k : Nat} (hk : k ≤ n) : 0 ≤ size - sumN (partV size f s) k ∧ size - sumN (partV size f s) k ≤ size := by
  have a := sumN_mono (f := partV size f s) (fun i hi => W.part0 h hi) hk
  have b := W.miss0 (size := size)
  have c := sumN_pos (f := partV size f s) (n := k) (fun i hi => W.part0 h (by omega))
  unfold missV at b; omega
theorem Weights.room (W : Weights f n s) (h : 0 ≤ size) {k : Nat} (hk : k < n) : partV size f s k + missV size f s n ≤ size := by
  have a := sumN_term (f := partV size f s) (fun i hi => W.part0 h hi) hk
  unfold missV; omega
end Go.Proofs.YtklaonoekmhakaaGreat

namespace Go.Proofs.YtklaonoekmhakaaGreat
open Go.RowKit
variable {w W : World} {b n rb g : Nat} {K f : Nat → Int}

theorem Piece.none {h : Nat → Int} {lo hi : Nat} (e : hi ≤ lo) : Piece n K h lo hi := ⟨fun s t s1 s2 s3 => by omega, fun t t1 t2 => by omega⟩
theorem Piece.keep {h h' : Nat → Int} {lo hi a c : Nat} (p : Piece n K h lo hi) (m : Mix n a c h h') (e : hi ≤ a ∨ c ≤ lo) : Piece n K h' lo hi :=
  ⟨p.1.same fun t t1 t2 => m.out t (by omega), fun t t1 t2 => by rw [m.out t (by omega)]; exact p.2 t t1 t2⟩
theorem Piece.cast {h : Nat → Int} {lo hi lo' hi' : Nat} (p : Piece n K h lo hi) (e1 : lo = lo') (e2 : hi = hi') : Piece n K h lo' hi' := by subst e1 e2; exact p
theorem Piece.order {h : Nat → Int} {a m c : Nat} (p : Piece n K h a m) (q : Piece n K h m c) : ∀ s t, a ≤ s → s < m → m ≤ t → t < c → h s < h t := fun s t s1 s2 t1 t2 => by
  have := (p.2 s s1 s2).2; have := (q.2 t t1 t2).1; omega
theorem Piece.join {h h' : Nat → Int} {a m c : Nat} (p : Piece n K h a m) (q : Piece n K h m c) (x : Mix n a c h h') (u : Up (key n K) h' a c) (e1 : a ≤ m) (e2 : m ≤ c) : Piece n K h' a c := by
  refine ⟨u, fun t t1 t2 => ?_⟩
  obtain ⟨s, s1, s2, s3⟩ := x.old t t1 t2
  rw [s3]
  by_cases e : s < m
  · have := p.2 s s1 e; omega
  · have := q.2 s (by omega) s2; omega
theorem Piece.laid {h h' : Nat → Int} {a c : Nat} (e : ∀ t, a ≤ t → t < c → h t = t) (x : Mix n a c h h') (u : Up (key n K) h' a c) : Piece n K h' a c := by
  refine ⟨u, fun t t1 t2 => ?_⟩
  obtain ⟨s, s1, s2, s3⟩ := x.old t t1 t2
  rw [s3, e s s1 s2]; omega
theorem SameSum.mix {h h' : Nat → Int} {a c : Nat} (s : SameSum n h) (m : Mix n a c h h') : SameSum n h' := fun p => (m.sum p).trans (s p)

set_option maxRecDepth 1000000 in
set_option maxHeartbeats 4000000 in
theorem stable_any (HS : SW w b n rb g K (fun t => (t : Int)) W) (cap : Nat) (hn : n ≤ 64) :
    Calls Tryz.prog 157 #[.slice (some ⟨b, 0, none⟩) n cap, .int .i64 n, .func (.func 153) #[] #[.pointer (some ⟨rb, 0, none⟩)]] W fun e w' => e = .returned (.tuple #[]) ∧ ∃ h, SW w b n rb g K h w' ∧ Piece n K h 0 n ∧ SameSum n h := by
  have H0 := Lib.hid HS
  clear HS
  go_enter Tryz.func157, Tryz.ntmps157
  go_wp2_with fail
  go_loopw [7, 8] (fun va vb wr => ∃ (a c i : Nat) (h : Nat → Int), va = .int .i64 a ∧ vb = .int .i64 c ∧ Hid (a = 20 * i ∧ c = a + 20) ∧ a ≤ n ∧ SW w b n rb g K h wr ∧ Hid (∀ j, j < i → Piece n K h (20 * j) (20 * j + 20)) ∧ Hid (∀ t, a ≤ t → h t = t) ∧ Hid (SameSum n h)) (fun va _ _ => n + 1 - (intOf va).toNat)
  case atStart => exact ⟨0, 20, 0, _, rfl, rfl, ⟨rfl, rfl⟩, Nat.zero_le _, H0.out, (fun j hj => by omega), (fun t _ => rfl), fun p => rfl⟩
  case round =>
    obtain ⟨a, c, i, h, rfl, rfl, HA, han, hT, HP, HI, HM⟩ := hrel
    have HT := Lib.hid hT
    clear hT
    by_cases hlt : c ≤ n
    · obtain ⟨c2, hc2⟩ : ∃ c2, c2 = c + 20 := ⟨_, rfl⟩
      have i1 : IntKind.i64.wrap ((c : Int) + 20) = (c2 : Int) := by rw [IntKind.wrap_i64]; omega
      have HC := Lib.hid hc2
      have hltz : (c : Int) ≤ (n : Int) := by omega
      clear hc2
      go_wp2_with fail
      refine (ins_any HT.out cap a c (by have := HA.out; omega) hlt (fun s t s1 s2 s3 => by rw [HI.out s s1, HI.out t (by omega)]; omega)).mono ?_
      rintro e w1 ⟨rfl, h', hT', m', u'⟩
      have HT' := Lib.hid hT'
      have M' := Lib.hid m'
      have U' := Lib.hid u'
      clear hT' m' u'
      go_wp2_with fail
      go_roundw
      case rel =>
        have := HA.out; have := HC.out
        refine ⟨c, c2, i + 1, h', rfl, rfl, ⟨by omega, by omega⟩, hlt, HT'.out, (fun j hj => ?_), (fun t ht => ?_), HM.out.mix M'.out⟩
        · by_cases e : j = i
          · subst e
            exact (Piece.laid (fun t t1 t2 => HI.out t t1) M'.out U'.out).cast (by omega) (by omega)
          · exact (HP.out j (by omega)).keep M'.out (by omega)
        · rw [M'.out.out t (by omega)]; exact HI.out t (by omega)
      case measure => have := HA.out; simp [intOf]; omega
    · have hltz : ¬ (c : Int) ≤ (n : Int) := by omega
      go_wp2_with fail
      refine (ins_any HT.out cap a n han (Nat.le_refl _) (fun s t s1 s2 s3 => by rw [HI.out s s1, HI.out t (by omega)]; omega)).mono ?_
      rintro e w1 ⟨rfl, h', hT', m', u'⟩
      have HQ : Hid (∀ j, Piece n K h' (20 * j) (min (20 * j + 20) n)) := by
        intro j
        have := HA.out
        by_cases e1 : j < i
        · exact ((HP.out j e1).keep m' (by omega)).cast rfl (by omega)
        · by_cases e2 : j = i
          · subst e2
            exact (Piece.laid (fun t t1 t2 => HI.out t t1) m' u').cast (by omega) (by omega)
          · exact Piece.none (by omega)
      have HT' := Lib.hid hT'
      have HM' := Lib.hid (HM.out.mix m')
      clear hT' m' u' HP HI HM HT HA hlt hltz H0 han
      go_wp2_with fail
      go_loopw [6] (fun vz wr => ∃ h : Nat → Int, SW w b n rb g K h wr ∧ Hid (SameSum n h) ∧ ((vz = .int .i64 20 ∧ Hid (∀ j, Piece n K h (20 * j) (min (20 * j + 20) n))) ∨ (vz = .int .i64 40 ∧ Hid (∀ j, Piece n K h (40 * j) (min (40 * j + 40) n))) ∨ (vz = .int .i64 80 ∧ Hid (∀ j, Piece n K h (80 * j) (min (80 * j + 80) n))))) (fun vz _ => 100 - (intOf vz).toNat)
      case atStart => exact ⟨h', HT'.out, HM'.out, .inl ⟨rfl, HQ.out⟩⟩
      case round =>
        clear HT' HM' HQ
        obtain ⟨h, hT, HM, hz⟩ := hrel
        have HT := Lib.hid hT
        clear hT
        rcases hz with ⟨rfl, HP⟩ | ⟨rfl, HP⟩ | ⟨rfl, HP⟩
        · by_cases hz : 20 < n
          · have hzz : (20 : Int) < (n : Int) := by omega
            obtain ⟨wo, hwo⟩ : ∃ wo, wo = wr := ⟨_, rfl⟩
            rw [← hwo] at HT ⊢
            clear hwo
            go_wp2_with fail
            go_loopw [7, 8] (fun va vb wr => ∃ (a c i : Nat) (h : Nat → Int), va = .int .i64 a ∧ vb = .int .i64 c ∧ Hid (a = 40 * i ∧ c = a + 40) ∧ a ≤ n ∧ SW w b n rb g K h wr ∧ Hid (∀ j, j < i → Piece n K h (40 * j) (40 * j + 40)) ∧ Hid (∀ j, 2 * i ≤ j → Piece n K h (20 * j) (min (20 * j + 20) n)) ∧ Hid (SameSum n h)) (fun va _ _ => n + 1 - (intOf va).toNat)
            case atStart => exact ⟨0, 40, 0, h, rfl, rfl, ⟨rfl, rfl⟩, Nat.zero_le _, HT.out, (fun j hj => by omega), (fun j _ => HP.out j), HM.out⟩
            case round =>
              clear HT HP HM
              obtain ⟨a, c, i, h, rfl, rfl, HA, han, hT, HP, HI, HM⟩ := hrel
              have HT := Lib.hid hT
              clear hT
              obtain ⟨m, hm⟩ : ∃ m, m = a + 20 := ⟨_, rfl⟩
              have i2 : IntKind.i64.wrap ((a : Int) + 20) = (m : Int) := by rw [IntKind.wrap_i64]; omega
              have HN := Lib.hid hm
              clear hm
              by_cases hlt : c ≤ n
              · obtain ⟨c2, hc2⟩ : ∃ c2, c2 = c + 40 := ⟨_, rfl⟩
                have i1 : IntKind.i64.wrap ((c : Int) + 40) = (c2 : Int) := by rw [IntKind.wrap_i64]; omega
                have HC := Lib.hid hc2
                have hltz : (c : Int) ≤ (n : Int) := by omega
                have P1 : Hid (Piece n K h a m) := (HI.out (2 * i) (Nat.le_refl _)).cast (by have := HA.out; omega) (by have := HA.out; have := HN.out; omega)
                have P2 : Hid (Piece n K h m c) := (HI.out (2 * i + 1) (by omega)).cast (by have := HA.out; have := HN.out; omega) (by have := HA.out; have := HN.out; omega)
                clear hc2
                go_wp2_with fail
                refine (sym_ok w b n rb g K cap 64 a m c h _ (by omega) (by have := HN.out; omega) (by have := HA.out; have := HN.out; omega) hlt HT.out P1.out.1 P2.out.1 (P1.out.order P2.out)).mono ?_
                rintro e w1 ⟨rfl, h', hT', m', u'⟩
                have HT' := Lib.hid hT'
                have M' := Lib.hid m'
                have U' := Lib.hid u'
                clear hT' m' u'
                go_wp2_with fail
                go_roundw
                case rel =>
                  have := HA.out; have := HC.out; have := HN.out
                  refine ⟨c, c2, i + 1, h', rfl, rfl, ⟨by omega, by omega⟩, hlt, HT'.out, (fun j hj => ?_), (fun j hj => ?_), HM.out.mix M'.out⟩
                  · by_cases e : j = i
                    · subst e
                      exact (P1.out.join P2.out M'.out U'.out (by omega) (by omega)).cast (by omega) (by omega)
                    · exact (HP.out j (by omega)).keep M'.out (by omega)
                  · exact (HI.out j (by omega)).keep M'.out (by omega)
                case measure => have := HA.out; simp [intOf]; omega
              · have hltz : ¬ (c : Int) ≤ (n : Int) := by omega
                by_cases hm : m < n
                · have hmz : (m : Int) < (n : Int) := by omega
                  have P1 : Hid (Piece n K h a m) := (HI.out (2 * i) (Nat.le_refl _)).cast (by have := HA.out; omega) (by have := HA.out; have := HN.out; omega)
                  have P2 : Hid (Piece n K h m n) := (HI.out (2 * i + 1) (by omega)).cast (by have := HA.out; have := HN.out; omega) (by have := HA.out; have := HN.out; omega)
                  go_wp2_with fail
                  refine (sym_ok w b n rb g K cap 64 a m n h _ (by omega) (by have := HN.out; omega) hm (Nat.le_refl _) HT.out P1.out.1 P2.out.1 (P1.out.order P2.out)).mono ?_
                  rintro e w1 ⟨rfl, h', hT', m', u'⟩
                  have HT' := Lib.hid hT'
                  have M' := Lib.hid m'
                  have U' := Lib.hid u'
                  clear hT' m' u'
                  go_wp2_with fail
                  go_roundw
                  case rel =>
                    have := HA.out; have := HN.out
                    refine ⟨h', HT'.out, HM.out.mix M'.out, .inr (.inl ⟨by go_num, fun j => ?_⟩)⟩
                    by_cases e1 : j < i
                    · exact ((HP.out j e1).keep M'.out (by omega)).cast rfl (by omega)
                    · by_cases e2 : j = i
                      · subst e2
                        exact (P1.out.join P2.out M'.out U'.out (by omega) (by omega)).cast (by omega) (by omega)
                      · exact Piece.none (by omega)
                  case measure => simp [intOf]
                · have hmz : ¬ (m : Int) < (n : Int) := by omega
                  go_wp2_with fail
                  go_roundw
                  case rel =>
                    have := HA.out; have := HN.out
                    refine ⟨h, HT.out, HM.out, .inr (.inl ⟨by go_num, fun j => ?_⟩)⟩
                    by_cases e1 : j < i
                    · exact (HP.out j e1).cast rfl (by omega)
                    · by_cases e2 : j = i
                      · subst e2
                        exact (HI.out (2 * j) (Nat.le_refl _)).cast (by omega) (by omega)
                      · exact Piece.none (by omega)
                  case measure => simp [intOf]
          · have hzz : ¬ (20 : Int) < (n : Int) := by omega
            go_wp2_with fail
            go_end0
            exact ⟨rfl, h, HT.out, (HP.out 0).cast rfl (by omega), HM.out⟩
        · by_cases hz : 40 < n
          · have hzz : (40 : Int) < (n : Int) := by omega
            obtain ⟨wo, hwo⟩ : ∃ wo, wo = wr := ⟨_, rfl⟩
            rw [← hwo] at HT ⊢
            clear hwo
            have P1 : Hid (Piece n K h 0 40) := (HP.out 0).cast rfl (by omega)
            have P2 : Hid (Piece n K h 40 n) := (HP.out 1).cast rfl (by omega)
            go_wp2_with fail
            go_loopw [7, 8] (fun va vb wr => va = .int .i64 0 ∧ vb = .int .i64 80 ∧ SW w b n rb g K h wr) (fun _ _ _ => 0)
            case atStart => exact ⟨rfl, rfl, HT.out⟩
            case round =>
              clear HT
              obtain ⟨rfl, rfl, hT⟩ := hrel
              have HT := Lib.hid hT
              clear hT
              have h8 : ¬ (80 : Int) ≤ (n : Int) := by omega
              go_wp2_with fail
              refine (sym_ok w b n rb g K cap 64 0 40 n h _ (by omega) (by omega) hz (Nat.le_refl _) HT.out P1.out.1 P2.out.1 (P1.out.order P2.out)).mono ?_
              rintro e w1 ⟨rfl, h', hT', m', u'⟩
              have HT' := Lib.hid hT'
              have M' := Lib.hid m'
              have U' := Lib.hid u'
              clear hT' m' u'
              go_wp2_with fail
              go_roundw
              case rel =>
                refine ⟨h', HT'.out, HM.out.mix M'.out, .inr (.inr ⟨by go_num, fun j => ?_⟩)⟩
                by_cases e1 : j = 0
                · subst e1
                  exact (P1.out.join P2.out M'.out U'.out (by omega) (by omega)).cast (by omega) (by omega)
                · exact Piece.none (by omega)
              case measure => simp [intOf]
          · have hzz : ¬ (40 : Int) < (n : Int) := by omega
            go_wp2_with fail
            go_end0
            exact ⟨rfl, h, HT.out, (HP.out 0).cast rfl (by omega), HM.out⟩
        · have hzz : ¬ (80 : Int) < (n : Int) := by omega
          go_wp2_with fail
          go_end0
          exact ⟨rfl, h, HT.out, (HP.out 0).cast rfl (by omega), HM.out⟩

set_option maxHeartbeats 400000 in
theorem sort_any (HS : SW w b n rb g K (fun t => (t : Int)) W) (cap : Nat) (hn : n ≤ 64) :
    Calls Tryz.prog 152 #[.slice (some ⟨b, 0, none⟩) n cap, .func (.func 153) #[] #[.pointer (some ⟨rb, 0, none⟩)]] W fun e w' => e = .returned (.tuple #[]) ∧ ∃ h, SW w b n rb g K h w' ∧ Piece n K h 0 n ∧ SameSum n h := by
  have H0 := Lib.hid HS
  clear HS
  go_enter Tryz.func152, Tryz.ntmps152
  go_wp2_with fail
  refine (stable_any H0.out cap hn).mono ?_
  rintro e w1 ⟨rfl, h⟩
  have H := Lib.hid h
  clear h
  go_wp2_with fail
  go_end0
  exact ⟨rfl, H.out⟩
end Go.Proofs.YtklaonoekmhakaaGreat
