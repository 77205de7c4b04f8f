/- Contracts: Over. -/
import Derived.Test.YtklaonoekmhakaaGreatOv
namespace Go.Proofs.YtklaonoekmhakaaGreat
open Go.RowKit

def Lim (x : Int) : Prop := 0 ≤ x ∧ x < 2 ^ 200
theorem lim_small {x : Int} (h0 : 0 ≤ x) (h : x < 2 ^ 210) : Small x := by
  unfold Small
  have h1 : (2 : Int) ^ 210 < 1000 ^ 200 := by decide +kernel
  generalize (2 : Int) ^ 210 = P at *
  generalize (1000 : Int) ^ 200 = R at *
  omega
theorem two_pos (k : Nat) : (0 : Int) < 2 ^ k := Int.pow_pos (by decide)
theorem dbl_bd {A b : Int} (hA : Lim A) (hb : 1 ≤ b) (hb2 : Lim b) {k : Nat} (h : k = 0 ∨ b * 2 ^ (k - 1) ≤ A) : k ≤ 200 ∧ 1 ≤ b * 2 ^ k ∧ b * 2 ^ k < 2 ^ 201 := by
  unfold Lim at *
  have hp := two_pos k
  have h1 : 1 * 2 ^ k ≤ b * 2 ^ k := Int.mul_le_mul_of_nonneg_right hb (by omega)
  have e201 : (2 : Int) ^ 201 = 2 ^ 200 * 2 := Int.pow_succ 2 200
  rcases h with rfl | h
  · rw [Int.pow_zero, Int.mul_one] at *
    rw [e201]; generalize (2 : Int) ^ 200 = P at *; omega
  · by_cases hk : k = 0
    · subst hk
      rw [Int.pow_zero, Int.mul_one] at *
      rw [e201]; generalize (2 : Int) ^ 200 = P at *; omega
    · obtain ⟨j, rfl⟩ : ∃ j, k = j + 1 := ⟨k - 1, by omega⟩
      rw [Nat.add_sub_cancel] at h
      have hj := two_pos j
      have e : b * 2 ^ (j + 1) = b * 2 ^ j * 2 := by rw [Int.pow_succ, Int.mul_assoc]
      have h2 : 1 * 2 ^ j ≤ b * 2 ^ j := Int.mul_le_mul_of_nonneg_right hb (by omega)
      have hlt : (2 : Int) ^ j < 2 ^ 200 := by generalize (2 : Int) ^ 200 = P at *; omega
      have hjk : j < 200 := by
        by_cases hc : j < 200
        · exact hc
        · obtain ⟨d, rfl⟩ : ∃ d, j = 200 + d := ⟨j - 200, by omega⟩
          rw [Int.pow_add] at hlt
          have hd := two_pos d; have h2h := two_pos 200
          have : (2 : Int) ^ 200 * 1 ≤ 2 ^ 200 * 2 ^ d := Int.mul_le_mul_of_nonneg_left (by omega) (by omega)
          generalize (2 : Int) ^ 200 = P at *
          omega
      refine ⟨by omega, by omega, ?_⟩
      rw [e, e201]; generalize (2 : Int) ^ 200 = P at *; omega

/-- Over's own blocks: what is left of the number, and its result -/
def OS (w W : World) (s : Int) (x : Option Addr) (l c : Nat) (A : Int) : Prop := Below w.heap.size w W ∧ w.heap.size + 3 ≤ W.heap.size ∧ Box W w.heap.size s x l c A ∧ Res W (w.heap.size + 2)
theorem OS.below {w W W' : World} {s : Int} {x : Option Addr} {l c : Nat} {A : Int} (h : OS w W s x l c A) (hb : Below W.heap.size W W') : OS w W' s x l c A :=
  ⟨h.1.trans (hb.mono (by have := h.2.1; omega)), Nat.le_trans h.2.1 hb.size, h.2.2.1.below hb, h.2.2.2.up hb (by have := h.2.1; omega)⟩
theorem OS.grown {w W W' : World} {row : Option Nat} {s : Int} {x : Option Addr} {l c : Nat} {A : Int} (h : OS w W s x l c A) (hg : W.grownBy W' row) (hr : ∀ g, row = some g → T30 W g ∧ w.heap.size + 3 ≤ g) : OS w W' s x l c A := by
  have hne : ∀ p, p < w.heap.size + 3 → some p ≠ row := fun p hp e => by have := (hr p e.symm).2; omega
  have hb : Below (w.heap.size + 3) W W' := (Below.refl _ _).grown hg h.2.1 (fun k hk => (hr k hk).2)
  exact ⟨h.1.trans (hb.mono (by omega)), Nat.le_trans h.2.1 hg.size, h.2.2.1.grown hg (hne _ (by omega)) (fun g hg' => (hr g hg').1), h.2.2.2.up hb (by omega)⟩
theorem OS.drewN {w W : World} {s : Int} {x : Option Addr} {l c : Nat} {A : Int} (h : OS w W s x l c A) (n : Nat) : OS w (W.drewN n) s x l c A := h.below (below_drewN (Below.refl _ _) n)
theorem OS.alloc {w W : World} {s : Int} {x : Option Addr} {l c : Nat} {A : Int} (h : OS w W s x l c A) (o : Obj) : OS w (W.alloc o) s x l c A := h.below ((Below.refl _ _).alloc (Nat.le_refl _) _)
theorem Dbl.drewN {W : World} {B k : Nat} {v : Value} {b : Int} (h : Dbl W B v k b) (n : Nat) : Dbl (W.drewN n) B v k b := h.below (below_drewN (Below.refl _ _) n)

theorem Res.other {W : World} {p q : Nat} (h : Res W p) (hne : q ≠ p) (u0 u1 : Value) : Res ((W.setCell ⟨q, 0, none⟩ u0).setCell ⟨q, 1, none⟩ u1) p :=
  ⟨(h.1.other hne 0 u0).other hne 1 u1, (T30.set h.2 0 u0).set 1 u1⟩
theorem OS.other {w W : World} {s : Int} {x : Option Addr} {l c : Nat} {A : Int} (h : OS w W s x l c A) {q : Nat} (hq : w.heap.size + 3 ≤ q) (hT : T30 W q) (u0 u1 : Value) : OS w ((W.setCell ⟨q, 0, none⟩ u0).setCell ⟨q, 1, none⟩ u1) s x l c A :=
  ⟨(h.1.setCell (by show w.heap.size ≤ q; omega) _).setCell (by show w.heap.size ≤ q; omega) _, by simpa using h.2.1, h.2.2.1.other (by omega) hT u0 u1, h.2.2.2.other (by omega) u0 u1⟩
theorem OS.putA {w W : World} {s : Int} {x : Option Addr} {l c : Nat} {A : Int} (h : OS w W s x l c A) {t : Int} {y : Option Addr} {l2 c2 : Nat} {m : Int} (hE : Ex W t y l2 c2 m) :
    OS w ((W.setCell ⟨w.heap.size, 0, none⟩ (.int .i64 t)).setCell ⟨w.heap.size, 1, none⟩ (.slice y l2 c2)) t y l2 c2 m :=
  ⟨(h.1.setCell (Nat.le_refl _) _).setCell (Nat.le_refl _) _, by simpa using h.2.1, h.2.2.1.put hE, h.2.2.2.other (by omega) _ _⟩

/-- what holds at the head of the second loop: what is left, and the quotient so far -/
def QS (w W : World) (p g k : Nat) (b : Int) (s : Int) (x : Option Addr) (l c : Nat) (R : Int) (sq : Int) (xq : Option Addr) (lq cq : Nat) (Q : Int) : Prop :=
  OS w W s x l c R ∧ Box W p sq xq lq cq Q ∧ DC W g k b ∧ w.heap.size + 3 ≤ g ∧ g < p
theorem QS.below {w W W' : World} {p g k : Nat} {b s R sq Q : Int} {x xq : Option Addr} {l c lq cq : Nat} (h : QS w W p g k b s x l c R sq xq lq cq Q) (hb : Below W.heap.size W W') : QS w W' p g k b s x l c R sq xq lq cq Q :=
  ⟨h.1.below hb, h.2.1.below hb, h.2.2.1.below hb, h.2.2.2⟩
theorem QS.drew {w W : World} {p g k : Nat} {b s R sq Q : Int} {x xq : Option Addr} {l c lq cq : Nat} (h : QS w W p g k b s x l c R sq xq lq cq Q) : QS w W.drew p g k b s x l c R sq xq lq cq Q := h.below (Below.refl _ _).drew
theorem Ex.drew {W : World} {s : Int} {a : Option Addr} {len cap : Nat} {n : Int} (h : Ex W s a len cap n) : Ex W.drew s a len cap n := h.below (Below.refl _ _).drew
theorem QS.putQ {w W : World} {p g k : Nat} {b s R sq Q : Int} {x xq : Option Addr} {l c lq cq : Nat} (h : QS w W p g k b s x l c R sq xq lq cq Q) {t : Int} {y : Option Addr} {l2 c2 : Nat} {m : Int} (hE : Ex W t y l2 c2 m) :
    QS w ((W.setCell ⟨p, 0, none⟩ (.int .i64 t)).setCell ⟨p, 1, none⟩ (.slice y l2 c2)) p g k b s x l c R t y l2 c2 m := by
  obtain ⟨h1, h2, h3, h4, h5⟩ := h
  exact ⟨h1.other (by omega) h2.2.1 _ _, h2.put hE, h3.other (by omega) h2.2.1 _ _, h4, h5⟩
theorem QS.putA {w W : World} {p g k : Nat} {b s R sq Q : Int} {x xq : Option Addr} {l c lq cq : Nat} (h : QS w W p g k b s x l c R sq xq lq cq Q) {t : Int} {y : Option Addr} {l2 c2 : Nat} {m : Int} (hE : Ex W t y l2 c2 m) :
    QS w ((W.setCell ⟨w.heap.size, 0, none⟩ (.int .i64 t)).setCell ⟨w.heap.size, 1, none⟩ (.slice y l2 c2)) p g k b t y l2 c2 m sq xq lq cq Q := by
  obtain ⟨h1, h2, h3, h4, h5⟩ := h
  exact ⟨h1.putA hE, h2.other (by omega) h1.2.2.1.2.1 _ _, h3.other (by omega) h1.2.2.1.2.1 _ _, h4, h5⟩
theorem QS.exA {w W : World} {p g k : Nat} {b s R sq Q : Int} {x xq : Option Addr} {l c lq cq : Nat} (h : QS w W p g k b s x l c R sq xq lq cq Q) : Ex W s x l c R := h.1.2.2.1.2.2
theorem QS.exQ {w W : World} {p g k : Nat} {b s R sq Q : Int} {x xq : Option Addr} {l c lq cq : Nat} (h : QS w W p g k b s x l c R sq xq lq cq Q) : Ex W sq xq lq cq Q := h.2.1.2.2
theorem QS.row {w W : World} {p g k : Nat} {b s R sq Q : Int} {x xq : Option Addr} {l c lq cq : Nat} (h : QS w W p g k b s x l c R sq xq lq cq Q) : Row2 W w.heap.size (.int .i64 s) (.slice x l c) := h.1.2.2.1.1
theorem QS.rowQ {w W : World} {p g k : Nat} {b s R sq Q : Int} {x xq : Option Addr} {l c lq cq : Nat} (h : QS w W p g k b s x l c R sq xq lq cq Q) : Row2 W p (.int .i64 sq) (.slice xq lq cq) := h.2.1.1

/-- a step of the division -/
def DivAt (A b : Int) (t : Nat) (Q R : Int) : Prop := A = Q * (b * 2 ^ t) + R ∧ 0 ≤ R ∧ R < b * 2 ^ t ∧ 0 ≤ Q ∧ Q ≤ A
theorem div_low {A b Q R : Int} {j : Nat} (hb : 1 ≤ b) (h : DivAt A b (j + 1) Q R) (hlt : R < b * 2 ^ j) : DivAt A b j (Q + Q) R := by
  obtain ⟨h1, h2, h3, h4, h5⟩ := h
  have e : b * 2 ^ (j + 1) = b * 2 ^ j + b * 2 ^ j := by rw [Int.pow_succ, ← Int.mul_assoc]; omega
  have hp := two_pos j
  have h6 : 1 * 2 ^ j ≤ b * 2 ^ j := Int.mul_le_mul_of_nonneg_right hb (by omega)
  rw [e, Int.mul_add] at h1
  refine ⟨by rw [Int.add_mul]; exact h1, h2, hlt, by omega, ?_⟩
  have h7 : Q * 1 ≤ Q * (b * 2 ^ j) := Int.mul_le_mul_of_nonneg_left (by omega) h4
  omega
theorem div_high {A b Q R : Int} {j : Nat} (hb : 1 ≤ b) (h : DivAt A b (j + 1) Q R) (hge : b * 2 ^ j ≤ R) : DivAt A b j (Q + Q + 1) (R - b * 2 ^ j) := by
  obtain ⟨h1, h2, h3, h4, h5⟩ := h
  have e : b * 2 ^ (j + 1) = b * 2 ^ j + b * 2 ^ j := by rw [Int.pow_succ, ← Int.mul_assoc]; omega
  have hp := two_pos j
  have h6 : 1 * 2 ^ j ≤ b * 2 ^ j := Int.mul_le_mul_of_nonneg_right hb (by omega)
  rw [e, Int.mul_add] at h1
  rw [e] at h3
  refine ⟨by rw [Int.add_mul, Int.add_mul, Int.one_mul]; omega, by omega, by omega, by omega, ?_⟩
  have h7 : Q * 1 ≤ Q * (b * 2 ^ j) := Int.mul_le_mul_of_nonneg_left (by omega) h4
  omega
theorem div_start {A b : Int} {k : Nat} (hA : 0 ≤ A) (hb : 1 ≤ b) (h : A < b * 2 ^ k) : DivAt A b (k + 1) 0 A := by
  have hp := two_pos k
  have h6 : 1 * 2 ^ k ≤ b * 2 ^ k := Int.mul_le_mul_of_nonneg_right hb (by omega)
  refine ⟨by omega, hA, ?_, by omega, hA⟩
  rw [Int.pow_succ, ← Int.mul_assoc]; omega
theorem div_done {A b Q R : Int} (hb : 1 ≤ b) (h : DivAt A b 0 Q R) : Q = A / b := by
  obtain ⟨h1, h2, h3, _⟩ := h
  rw [Int.pow_zero, Int.mul_one] at h1 h3
  exact (div_uniq (by omega) h1.symm h2 h3).1.symm

theorem div_r {A b Q R : Int} {t : Nat} (hb : 1 ≤ b) (h : DivAt A b t Q R) : R ≤ A := by
  obtain ⟨h1, h2, h3, h4, h5⟩ := h
  have hp := two_pos t
  have h6 : 1 * 2 ^ t ≤ b * 2 ^ t := Int.mul_le_mul_of_nonneg_right hb (by omega)
  have h7 : 0 ≤ Q * (b * 2 ^ t) := Int.mul_nonneg h4 (by omega)
  omega
theorem sm1 {A x : Int} (hA : Lim A) (h0 : 0 ≤ x) (h : x ≤ A) : Small x := lim_small h0 (by
  have h1 : (2 : Int) ^ 200 < 2 ^ 210 := by decide +kernel
  have := hA.2
  generalize (2 : Int) ^ 200 = P at *; generalize (2 : Int) ^ 210 = R at *; omega)
theorem sm2 {A x : Int} (hA : Lim A) (h0 : 0 ≤ x) (h : x ≤ A + A) : Small x := lim_small h0 (by
  have h1 : (2 : Int) ^ 200 + 2 ^ 200 < 2 ^ 210 := by decide +kernel
  have := hA.2
  generalize (2 : Int) ^ 200 = P at *; generalize (2 : Int) ^ 210 = R at *; omega)
theorem smr {A b Q R : Int} {t : Nat} (hA : Lim A) (hb : 1 ≤ b) (h : DivAt A b t Q R) : Small R := sm1 hA h.2.1 (div_r hb h)
theorem smq {A b Q R : Int} {t : Nat} (hA : Lim A) (h : DivAt A b t Q R) : Small (Q + Q) := sm2 hA (by have := h.2.2.2.1; omega) (by have := h.2.2.2.2; omega)
theorem smd {b : Int} {j k : Nat} (hb : 1 ≤ b) (hj : j ≤ k) (h : b * 2 ^ k < 2 ^ 201) : Small (b * 2 ^ j) := by
  have hp := two_pos j
  have h6 : 1 * 2 ^ j ≤ b * 2 ^ j := Int.mul_le_mul_of_nonneg_right hb (by omega)
  have h7 : b * 2 ^ j ≤ b * 2 ^ k := by
    obtain ⟨d, rfl⟩ : ∃ d, k = j + d := ⟨k - j, by omega⟩
    rw [Int.pow_add, ← Int.mul_assoc]
    have hd := two_pos d
    have : b * 2 ^ j * 1 ≤ b * 2 ^ j * 2 ^ d := Int.mul_le_mul_of_nonneg_left (by omega) (by omega)
    omega
  refine lim_small (by omega) ?_
  have h1 : (2 : Int) ^ 201 < 2 ^ 210 := by decide +kernel
  generalize (2 : Int) ^ 201 = P at *; generalize (2 : Int) ^ 210 = R at *; omega
/-- the cells that a comparison reads -/
def RQ (N g j : Nat) (W : World) (v0 v1 v2 v3 : Value) : Prop := W.cell? ⟨N, 0, none⟩ = some v0 ∧ W.cell? ⟨N, 1, none⟩ = some v1 ∧ W.cell? ⟨g, j * 2, none⟩ = some v2 ∧ W.cell? ⟨g, j * 2 + 1, none⟩ = some v3
theorem RQ.below {N g j : Nat} {W W' : World} {v0 v1 v2 v3 : Value} (h : RQ N g j W v0 v1 v2 v3) (hb : Below W.heap.size W W') : RQ N g j W' v0 v1 v2 v3 := ⟨kcell hb h.1, kcell hb h.2.1, kcell hb h.2.2.1, kcell hb h.2.2.2⟩
theorem RQ.drew {N g j : Nat} {W : World} {v0 v1 v2 v3 : Value} (h : RQ N g j W v0 v1 v2 v3) : RQ N g j W.drew v0 v1 v2 v3 := h

theorem two_news (W : World) (x y : Value) (t : Nat) : ∀ (j : Nat) (u : Value), [x, y][j]? = some u → (W.alloc (.cells #[x, y] t)).cell? ((⟨W.heap.size, 0, none⟩ : Addr).add j) = some u := by
  intro j u hj
  match j, hj with
  | 0, hj => simp at hj; subst hj; simp [Addr.add]
  | 1, hj => simp at hj; subst hj; simp [Addr.add]
theorem two_cell (n : Int) (a : Option Addr) (l c : Nat) : ∀ u ∈ [Value.int .i64 n, Value.slice a l c], u.oneCell' = true := by
  intro u hu; simp at hu; rcases hu with rfl | rfl <;> rfl

set_option maxRecDepth 100000 in
set_option maxHeartbeats 1600000 in
theorem over_nonneg (s sb A b : Int) (x y : Option Addr) (l l2 c c2 : Nat) (w : World) (ha : Ex w s x l c A) (hb : Ex w sb y l2 c2 b) (hA : Lim A) (hb1 : 1 ≤ b) (hB : Lim b) :
    Calls Tryz.prog 114 #[.agg #[.int .i64 s, .slice x l c], .agg #[.int .i64 sb, .slice y l2 c2]] w (ExPost w (A / b)) := by
  obtain ⟨i1, hi, hz0, hz1, hz2⟩ := info_parts Tryz.infoExact
  have hs0 : 0 ≤ s := by rw [ha.1]; exact sign_ge hA.1
  have HA := Lib.hid ha; have HB := Lib.hid hb; have HLA := Lib.hid hA; have HB1 := Lib.hid hb1; have HLB := Lib.hid hB
  clear ha hb hA hb1 hB
  have HP := Lib.hid (phead_start w (.int .i64 s) (.slice x l c) (.int .i64 sb) (.slice y l2 c2))
  go_enter Tryz.func114, Tryz.ntmps114
  go_upto_region 1 with fail
  have HOS : Hid (OS w (((w.alloc (.cells #[.int .i64 s, .slice x l c] 135)).alloc (.cells #[.int .i64 sb, .slice y l2 c2] 135)).alloc (.cells #[.int .i64 0, .slice none 0 0] 135)) s x l c A) := by
    have hb0 : Below (w.alloc (.cells #[.int .i64 s, .slice x l c] 135)).heap.size (w.alloc (.cells #[.int .i64 s, .slice x l c] 135)) (((w.alloc (.cells #[.int .i64 s, .slice x l c] 135)).alloc (.cells #[.int .i64 sb, .slice y l2 c2] 135)).alloc (.cells #[.int .i64 0, .slice none 0 0] 135)) := ((Below.refl _ _).alloc (Nat.le_refl _) _).alloc (by simp) _
    exact ⟨HP.out.1, HP.out.2.1, (Box.new w HA.out).below hb0, HP.out.2.2.2.2.2.2⟩
  obtain ⟨W0, hW0⟩ : ∃ W0, W0 = (((w.alloc (.cells #[.int .i64 s, .slice x l c] 135)).alloc (.cells #[.int .i64 sb, .slice y l2 c2] 135)).alloc (.cells #[.int .i64 0, .slice none 0 0] 135)) := ⟨_, rfl⟩
  rw [← hW0] at HP HOS
  rw [← hW0]
  clear hW0
  obtain ⟨_, hz3, c0, c1, d0, d1, _⟩ := HP.out
  go_wp2_with fail
  have HD1 := Lib.hid (Dbl.start (B := w.heap.size + 3) (HB.out.below HP.out.1) hz3)
  have HO1 := Lib.hid (HOS.out.alloc (.cells #[.int .i64 sb, .slice y l2 c2] 135))
  obtain ⟨W1, hW1⟩ : ∃ W1, W1 = W0.alloc (.cells #[.int .i64 sb, .slice y l2 c2] 135) := ⟨_, rfl⟩
  rw [← hW1] at HD1 HO1
  rw [← hW1]
  clear hW1 c0 c1 d0 d1 hz3 HP HOS
  go_loopw [5, 6] (fun v _ W => ∃ k : Nat, (k = 0 ∨ b * 2 ^ (k - 1) ≤ A) ∧ OS w W s x l c A ∧ Dbl W (w.heap.size + 3) v k b) (fun v _ _ => match v with | .slice _ n _ => 202 - n | _ => 0)
  case atStart => exact ⟨0, .inl rfl, HO1.out, HD1.out⟩
  case round =>
    obtain ⟨k, hk, hO, hD⟩ := hrel
    have HK := Lib.hid (dbl_bd HLA.out HB1.out HLB.out hk)
    have HO := Lib.hid hO; have HD := Lib.hid hD
    have hk200 := HK.out.1
    clear hk hO hD
    obtain ⟨g, cap, rfl, hg3, hgT, hDC⟩ := HD.out.get
    obtain ⟨sk, xk, lk, ck, z0, z1, hEk⟩ := hDC k (Nat.le_refl _)
    have HE := Lib.hid hEk; have HGT := Lib.hid hgT
    clear hDC hEk hgT
    obtain ⟨a0, a1, _, _⟩ := HO.out.2.2.1.1
    by_cases hlt : A < b * 2 ^ k
    · obtain ⟨la, ea, da, oa, _, va⟩ := HO.out.2.2.1.2.2.2
      obtain ⟨lb, eb, db, ob, _, vb⟩ := HE.out.2
      have HLS := Lib.hid (fun (n : Nat) => least_yes x xk l lk c ck la lb (wr.drewN n) (da.drewN n) (db.drewN n) oa ob ea eb (by have := ex_len HO.out.2.2.1.2.2 (lim_small HLA.out.1 (Int.lt_trans HLA.out.2 (by decide +kernel))); omega) (by have := ex_len HE.out (lim_small (by have := HK.out.2.1; omega) (Int.lt_trans HK.out.2.2 (by decide +kernel))); omega) (by rw [va, vb]; have := HLA.out.1; have := HK.out.2.1; omega))
      clear ea da oa va eb db ob vb
      have zk : (0 : Int) ≤ (k : Int) := by omega
      have zk1 : (k : Int) < (k : Int) + 1 := by omega
      have zk2 : k < k + 1 := by omega
      have wk1 : IntKind.i64.wrap (k : Int) = (k : Int) := wrap_i (by omega) (by omega)
      go_wp2_with fail
      go_quiet (first | (go_at_call 113; with_reducible exact quiet_left (HLS.out _)))
      clear wk1 HLS a0 a1
      have HOq := Lib.hid (HO.out.drewN nq); have HDq := Lib.hid (HD.out.drewN nq)
      obtain ⟨Wq, hWq⟩ : ∃ Wq, Wq = wr.drewN nq := ⟨_, rfl⟩
      rw [← hWq] at HOq HDq
      rw [← hWq]
      clear hWq z0 z1 HO HD HE
      have HDiv := Lib.hid (div_start HLA.out.1 HB1.out hlt)
      clear hlt
      go_wp2_with fail
      have HQ0 : Hid (QS w (Wq.alloc (.cells #[.int .i64 0, .slice none 0 0] 135)) Wq.heap.size g k b s x l c A 0 none 0 0 0) := by
        have hbw : Below Wq.heap.size Wq (Wq.alloc (.cells #[.int .i64 0, .slice none 0 0] 135)) := (Below.refl _ _).alloc (Nat.le_refl _) _
        obtain ⟨g', cap', e', _, t', dc⟩ := HDq.out.get
        simp at e'
        obtain ⟨rfl, _⟩ := e'
        exact ⟨HOq.out.below hbw, (Res.start Wq).box, dc.below hbw, hg3, t'.lt⟩
      obtain ⟨W7, hW7⟩ : ∃ W7, W7 = Wq.alloc (.cells #[.int .i64 0, .slice none 0 0] 135) := ⟨_, rfl⟩
      rw [← hW7] at HQ0
      rw [← hW7]
      obtain ⟨pq, hpq⟩ : ∃ pq, pq = Wq.heap.size := ⟨_, rfl⟩
      rw [← hpq] at HQ0
      rw [← hpq]
      clear hW7 hpq HOq HDq
      go_loopw [8] (fun i W => ∃ t : Int, -1 ≤ t ∧ t ≤ k ∧ i = .int .i64 t ∧ ∃ s x l c R sq xq lq cq Q, QS w W pq g k b s x l c R sq xq lq cq Q ∧ DivAt A b (t + 1).toNat Q R) (fun i _ => (intOf i + 1).toNat)
      case atStart => exact ⟨(k : Int), by omega, by omega, rfl, s, x, l, c, A, 0, none, 0, 0, 0, HQ0.out, by rw [show ((k : Int) + 1).toNat = k + 1 by omega]; exact HDiv.out⟩
      case round =>
        obtain ⟨t, ht1, ht2, rfl, s5, x5, l5, c5, R, sq, xq, lq, cq, Q, hQS, hDiv⟩ := hrel
        have HQS := Lib.hid hQS; have HDv := Lib.hid hDiv
        clear hQS hDiv
        by_cases hz : 0 ≤ t
        · obtain ⟨j, rfl⟩ := Int.eq_ofNat_of_zero_le hz
          rw [show ((j : Int) + 1).toNat = j + 1 by omega] at HDv
          have hjk : j ≤ k := by omega
          obtain ⟨b0, b1, f0, f1⟩ := HQS.out.rowQ
          go_wp2_with fail
          refine (plus_ex sq sq Q Q xq xq lq lq cq cq _ HQS.out.exQ HQS.out.exQ (sm1 HLA.out HDv.out.2.2.2.1 HDv.out.2.2.2.2) (sm1 HLA.out HDv.out.2.2.2.1 HDv.out.2.2.2.2)).mono ?_
          rintro e w1 ⟨s1, x1, n1, p1, rfl, hE1, hb1⟩
          have HQ1 := Lib.hid (HQS.out.below hb1); have HE1 := Lib.hid hE1
          clear hE1 hb1 b0 b1 f0 f1
          obtain ⟨b0, b1, f0, f1⟩ := HQ1.out.rowQ
          have HQ2 := Lib.hid (HQ1.out.putQ HE1.out)
          go_upto_region 12 with fail
          obtain ⟨W2, hW2⟩ : ∃ W2, W2 = (w1.setCell ⟨pq, 0, none⟩ (.int .i64 s1)).setCell ⟨pq, 1, none⟩ (.slice x1 n1 p1) := ⟨_, rfl⟩
          rw [← hW2] at HQ2
          rw [← hW2]
          clear hW2 b0 b1 f0 f1 HQ1 HE1
          obtain ⟨sj, xj, lj, cj, z0, z1, hEj⟩ := HQ2.out.2.2.1 j hjk
          have HRQ : Hid (RQ w.heap.size g j W2 (.int .i64 s5) (.slice x5 l5 c5) (.int .i64 sj) (.slice xj lj cj)) := ⟨HQ2.out.row.1, HQ2.out.row.2.1, z0, z1⟩
          have HEj := Lib.hid hEj
          clear hEj z0 z1
          obtain ⟨u0, u1, z0, z1⟩ := HRQ.out
          have zj : (0 : Int) ≤ (j : Int) := by omega
          have zj1 : (j : Int) < (k : Int) + 1 := by omega
          have zj2 : j < k + 1 := by omega
          obtain ⟨sg, hsg⟩ : ∃ sg, (R - b * 2 ^ j).sign = sg := ⟨_, rfl⟩
          have HSg := Lib.hid hsg
          by_cases hge : b * 2 ^ j ≤ R
          · have hsg0 : 0 ≤ sg := by rw [← hsg]; exact sign_ge (by omega)
            have tg : decide (0 ≤ sg) = true := by simp; omega
            have HDn := Lib.hid (div_high HB1.out HDv.out hge)
            clear hsg hge
            go_region_held3 (fun w' => w'.cell? ⟨w.heap.size, 0, none⟩ = some (.int .i64 s5) ∧ w'.cell? ⟨w.heap.size, 1, none⟩ = some (.slice x5 l5 c5) ∧ w'.cell? ⟨g, j * 2, none⟩ = some (.int .i64 sj) ∧ w'.cell? ⟨g, j * 2 + 1, none⟩ = some (.slice xj lj cj))
              ((change RQ w.heap.size g j _ _ _ _ _; with_reducible (first | exact HRQ.out.drew | exact kR4.out)))
              (first | (go_at_call 110; ((with_reducible refine (cmp_ex s5 sj R (b * 2 ^ j) x5 xj l5 lj c5 cj _ HQ2.out.drew.exA HEj.out.drew (smr HLA.out HB1.out HDv.out) (smd HB1.out hjk HK.out.2.2)).mono ?_); rintro e w4 ⟨he4, hb4⟩; rw [HSg.out] at he4; subst he4; have kQ4 := Lib.hid (HQ2.out.drew.below hb4); have kR4 := Lib.hid (HRQ.out.drew.below hb4); have kE4 := Lib.hid (HEj.out.drew.below hb4); clear hb4)))
            clear u0 u1 z0 z1
            obtain ⟨u0, u1, z0, z1⟩ := kR4.out
            obtain ⟨_, _, f0, f1⟩ := kQ4.out.row
            go_wp2_with fail
            go_region_with (first | (go_at_call 81; ((with_reducible refine (less_ex s5 sj R (b * 2 ^ j) x5 xj l5 lj c5 cj _ kQ4.out.drew.exA kE4.out.drew (smr HLA.out HB1.out HDv.out) (smd HB1.out hjk HK.out.2.2)).mono ?_); rintro e w5 ⟨s7, x7, n7, p7, rfl, hE5, hb5⟩; have kQ5 := Lib.hid (kQ4.out.drew.below hb5); have kE5 := Lib.hid hE5; clear hE5 hb5; obtain ⟨v0, v1, v2, v3⟩ := kQ5.out.row)))
            all_goals
              have HQ6 := Lib.hid (kQ5.out.putA kE5.out)
              obtain ⟨W6, hW6⟩ : ∃ W6, W6 = (w5.setCell ⟨w.heap.size, 0, none⟩ (.int .i64 s7)).setCell ⟨w.heap.size, 1, none⟩ (.slice x7 n7 p7) := ⟨_, rfl⟩
              rw [← hW6] at HQ6
              rw [← hW6]
              clear hW6 u0 u1 z0 z1 f0 f1 v0 v1 v2 v3 kQ5 kE5 kQ4 kR4 kE4 HQ2 HRQ HEj
              obtain ⟨u0, u1, f0, f1⟩ := HQ6.out.rowQ
              go_wp2_with fail
              go_region_with (first | (go_at_call 77; ((with_reducible refine (of_any 1 _ (by decide) (by decide)).mono ?_); rintro e w7 ⟨s8, x8, n8, p8, rfl, hE7, hb7⟩; have kQ7 := Lib.hid (HQ6.out.drew.below hb7); have kE7 := Lib.hid hE7; clear hE7 hb7; obtain ⟨v0, v1, v2, v3⟩ := kQ7.out.rowQ)) | (go_at_call 76; ((with_reducible refine (plus_ex s1 s8 (Q + Q) 1 x1 x8 n1 n8 p1 p8 _ kQ7.out.exQ kE7.out (smq HLA.out HDv.out) (small64 (by decide) (by decide))).mono ?_); rintro e w8 ⟨s9, x9, n9, p9, rfl, hE8, hb8⟩; have kQ8 := Lib.hid (kQ7.out.below hb8); have kE8 := Lib.hid hE8; clear hE8 hb8; obtain ⟨y0, y1, y2, y3⟩ := kQ8.out.rowQ)))
              all_goals
                go_wp2_with fail
                go_roundw
                case rel => exact ⟨(j : Int) - 1, by omega, by omega, rfl, s7, x7, n7, p7, R - b * 2 ^ j, s9, x9, n9, p9, Q + Q + 1, kQ8.out.putQ kE8.out, by rw [show ((j : Int) - 1 + 1).toNat = j by omega]; exact HDn.out⟩
                case measure => simp [intOf]
          · have hsg0 : sg < 0 := by rw [← hsg, Int.sign_eq_neg_one_of_neg (by omega)]; omega
            have tg : decide (0 ≤ sg) = false := by simp; omega
            have HDn := Lib.hid (div_low HB1.out HDv.out (Int.not_le.1 hge))
            clear hsg hge
            go_region_held3 (fun w' => w'.cell? ⟨w.heap.size, 0, none⟩ = some (.int .i64 s5) ∧ w'.cell? ⟨w.heap.size, 1, none⟩ = some (.slice x5 l5 c5) ∧ w'.cell? ⟨g, j * 2, none⟩ = some (.int .i64 sj) ∧ w'.cell? ⟨g, j * 2 + 1, none⟩ = some (.slice xj lj cj))
              ((change RQ w.heap.size g j _ _ _ _ _; with_reducible (first | exact HRQ.out.drew | exact kR4.out)))
              (first | (go_at_call 110; ((with_reducible refine (cmp_ex s5 sj R (b * 2 ^ j) x5 xj l5 lj c5 cj _ HQ2.out.drew.exA HEj.out.drew (smr HLA.out HB1.out HDv.out) (smd HB1.out hjk HK.out.2.2)).mono ?_); rintro e w4 ⟨he4, hb4⟩; rw [HSg.out] at he4; subst he4; have kQ4 := Lib.hid (HQ2.out.drew.below hb4); have kR4 := Lib.hid (HRQ.out.drew.below hb4); have kE4 := Lib.hid (HEj.out.drew.below hb4); clear hb4)))
            clear u0 u1 z0 z1
            go_wp2_with fail
            go_roundw
            case rel => exact ⟨(j : Int) - 1, by omega, by omega, rfl, s5, x5, l5, c5, R, s1, x1, n1, p1, Q + Q, kQ4.out, by rw [show ((j : Int) - 1 + 1).toNat = j by omega]; exact HDn.out⟩
            case measure => simp [intOf]
        · obtain rfl : t = -1 := by omega
          have HQE := Lib.hid (div_done HB1.out HDv.out)
          obtain ⟨b0, b1, _, _⟩ := HQS.out.rowQ
          obtain ⟨r0, r1, f0, f1⟩ := HQS.out.1.2.2.2.1
          go_wp2_with fail
          exact bodyPost_ret (v := .agg #[.int .i64 sq, .slice xq lq cq]) (by simp [results, Tryz.results114, go_sem, r0, r1]) rfl
            ⟨sq, xq, lq, cq, rfl, ex_store HQS.out.1.2.2.2 (by rw [← HQE.out]; exact HQS.out.exQ) _ _, (HQS.out.1.1.setCell (by show w.heap.size ≤ w.heap.size + 1 + 1; omega) _).setCell (by show w.heap.size ≤ w.heap.size + 1 + 1; omega) _⟩
    · obtain ⟨la, ea, da, oa, _, va⟩ := HO.out.2.2.1.2.2.2
      obtain ⟨lb, eb, db, ob, _, vb⟩ := HE.out.2
      have HLS := Lib.hid (fun (n : Nat) => least_no x xk l lk c ck la lb (wr.drewN n) (da.drewN n) (db.drewN n) oa ob ea eb (by have := ex_len HO.out.2.2.1.2.2 (lim_small HLA.out.1 (Int.lt_trans HLA.out.2 (by decide +kernel))); omega) (by have := ex_len HE.out (lim_small (by have := HK.out.2.1; omega) (Int.lt_trans HK.out.2.2 (by decide +kernel))); omega) (by rw [va, vb]; have := HLA.out.1; have := HK.out.2.1; omega))
      clear ea da oa va eb db ob vb
      have HNLT := Lib.hid (Int.not_lt.1 hlt)
      clear hlt
      have zk : (0 : Int) ≤ (k : Int) := by omega
      have zk1 : (k : Int) < (k : Int) + 1 := by omega
      have zk2 : k < k + 1 := by omega
      have wk1 : IntKind.i64.wrap (k : Int) = (k : Int) := wrap_i (by omega) (by omega)
      go_wp2_with fail
      go_quiet (first | (go_at_call 113; with_reducible exact quiet_left (HLS.out _)))
      clear wk1 HLS a0 a1
      have HOq := Lib.hid (HO.out.drewN nq); have HDq := Lib.hid (HD.out.drewN nq); have HEq := Lib.hid (HE.out.below (below_drewN (Below.refl _ _) nq))
      obtain ⟨Wq, hWq⟩ : ∃ Wq, Wq = wr.drewN nq := ⟨_, rfl⟩
      have z0' : Wq.cell? ⟨g, k * 2, none⟩ = some (.int .i64 sk) := by rw [hWq]; exact z0
      have z1' : Wq.cell? ⟨g, k * 2 + 1, none⟩ = some (.slice xk lk ck) := by rw [hWq]; exact z1
      rw [← hWq] at HOq HDq HEq
      rw [← hWq]
      clear hWq z0 z1 HO HD HE
      go_wp2_with fail
      have HBW := Lib.hid ((Below.refl Wq.heap.size Wq).alloc (Nat.le_refl _) (.cells #[.int .i64 sk, .slice xk lk ck] 135))
      have HSm : Hid (Small (b * 2 ^ k)) := lim_small (by have := HK.out.2.1; omega) (Int.lt_trans HK.out.2.2 (by decide +kernel))
      refine (plus_ex sk sk (b * 2 ^ k) (b * 2 ^ k) xk xk lk lk ck ck _ (HEq.out.below HBW.out) (HEq.out.below HBW.out) HSm.out HSm.out).mono ?_
      rintro e w2 ⟨s2, x2, n2, p2, rfl, hE2, hb2⟩
      have HO2 := Lib.hid ((HOq.out.alloc (.cells #[.int .i64 sk, .slice xk lk ck] 135)).below hb2)
      have HD2 := Lib.hid ((HDq.out.below HBW.out).below hb2)
      have HE2 : Hid (Ex w2 s2 x2 n2 p2 (b * 2 ^ (k + 1))) := by
        show Ex _ _ _ _ _ _
        rw [Int.pow_succ, ← Int.mul_assoc, show b * 2 ^ k * 2 = b * 2 ^ k + b * 2 ^ k by omega]; exact hE2
      clear hE2 hb2 HSm HBW HEq HOq HDq z0' z1'
      obtain ⟨xs, hown, hxs⟩ := HD2.out
      have HXS := Lib.hid hxs
      clear hxs
      have hB2 := HO2.out.2.1
      go_wp2_with (first | (at_builtin; refine wpList_append_own _ rfl _ _ 207 rfl (w.heap.size + 3) 135 i1 (.agg #[.int .i64 0, .slice none 0 0]) 2 32 Tryz.underlying207 hi hz0 hz1 hz2 rfl (by decide) _ _ _ rfl (World.ownsRow.alloc hown _) ⟨w2.heap.size, 0, none⟩ 1 1 [.int .i64 s2, .slice x2 n2 p2] rfl rfl (two_news _ _ _ _) (two_cell _ _ _ _) ?c3 ?c4 ?c5 ?_))
      case c3 => unfold maxLen; omega
      case c4 => omega
      case c5 => simp; omega
      intro v' w3 hown' hgrow _
      have HN := Lib.hid (Dbl.step hown HXS.out HE2.out hown' _ hgrow)
      have HO3 := Lib.hid ((HO2.out.alloc (.cells #[.int .i64 s2, .slice x2 n2 p2] 135)).grown hgrow (fun g' hg' => ⟨((HD2.out.row g' hg').1).below ((Below.refl _ _).alloc (Nat.le_refl _) _), (HD2.out.row g' hg').2⟩))
      clear hown' hgrow hown HXS HE2 HD2 HO2
      obtain ⟨g', cap', hv', _⟩ := HN.out.get
      subst hv'
      go_wp2_with fail
      go_roundw
      case rel => exact ⟨k + 1, .inr (by rw [Nat.add_sub_cancel]; exact HNLT.out), HO3.out, HN.out⟩
      case measure => simp; omega
end Go.Proofs.YtklaonoekmhakaaGreat
