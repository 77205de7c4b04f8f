/- Sums in boxes; what a store into a block of another type leaves of exact numbers. -/
import Derived.Test.YtbcdfkcgcaifjaaBk
import Derived.Test.YtbcdfkcgcaifjaaZ
import Derived.Test.YtbcdfkcgcaifjaaAlA
import Derived.Test.YtbcdfkcgcaifjaaRoAll
namespace Go.Proofs.Ytbcdfkcgcaifjaa
open Go.RowKit

theorem mul_small {a b : Int} (ha : Am a) (hb : Am b) : Small (a * b) := by
  unfold Am at ha hb
  have h1 : a.natAbs ≤ 9223372036854775808 := by omega
  have h2 : b.natAbs ≤ 9223372036854775808 := by omega
  have h3 : (a * b).natAbs ≤ 9223372036854775808 * 9223372036854775808 := by
    rw [Int.natAbs_mul]; exact Nat.mul_le_mul h1 h2
  have h3' : ((a * b).natAbs : Int) ≤ 85070591730234615865843651857942052864 := by omega
  have h5 : (1000 : Int) ^ 20 * 1 ≤ 1000 ^ (20 + 180) := by
    rw [Int.pow_add]; exact Int.mul_le_mul_of_nonneg_left (by have := pow_pos' 180; omega) (by decide)
  have h6 : (1000 : Int) ^ 20 = 1000000000000000000000000000000000000000000000000000000000000 := by decide
  have h7 : (1000 : Int) ^ (20 + 180) = 1000 ^ 200 := rfl
  rw [h6, h7] at h5
  unfold Small
  generalize (1000 : Int) ^ 200 = P at *
  omega
/-- digits lie in blocks of integers: a store into a block of another type leaves them -/
theorem Dg.off {W : World} {a : Option Addr} {cap : Nat} {l : List Int} (h : Dg W a cap l) {N T : Nat} {cs : Array Value} (hN : Has W N T cs) (hT : T ≠ 3) (k : Nat) (u : Value) : Dg (W.setCell ⟨N, k, none⟩ u) a cap l := by
  rcases h with h | ⟨g, h1, h2, ⟨cur, fr, h4⟩, h3⟩
  · exact .inl h
  · have hne : g ≠ N := by
      intro e; subst e
      unfold Has at hN
      rw [hN] at h4
      injection h4 with h4
      injection h4 with _ e
      exact hT e
    refine .inr ⟨g, h1, h2, ⟨cur, fr, ?_⟩, fun i hi => cset (h3 i hi) (.inl hne)⟩
    rw [Below.heap_setCell W ⟨N, k, none⟩ u g hne]; exact h4
theorem Ex.off {W : World} {s : Int} {a : Option Addr} {len cap : Nat} {n : Int} (h : Ex W s a len cap n) {N T : Nat} {cs : Array Value} (hN : Has W N T cs) (hT : T ≠ 3) (k : Nat) (u : Value) : Ex (W.setCell ⟨N, k, none⟩ u) s a len cap n := by
  obtain ⟨h1, l, h2, h3, h4⟩ := h
  exact ⟨h1, l, h2, h3.off hN hT k u, h4⟩
/-- a sum in a box -/
structure SmX (W : World) (b : Nat) (v s : Int) (a : Option Addr) (len cap : Nat) : Prop where
  has : Has W b 45 #[.int .i64 s, .slice a len cap]
  ex : Ex W s a len cap v
section
variable {W W' : World} {b : Nat} {v s : Int} {a : Option Addr} {len cap : Nat}
theorem SmX.up (h : SmX W b v s a len cap) (q : Below W.heap.size W W') : SmX W' b v s a len cap := ⟨h.has.up q, h.ex.below q⟩
theorem SmX.drew (h : SmX W b v s a len cap) : SmX W.drew b v s a len cap := h.up (Below.refl _ _).drew
theorem SmX.start (w : World) : SmX (w.alloc (.cells #[.int .i64 0, .slice none 0 0] 45)) w.heap.size 0 0 none 0 0 := ⟨Has.fresh _ _ _, ex_zero rfl 0⟩
theorem SmX.row (h : SmX W b v s a len cap) : Row2 W b (.int .i64 s) (.slice a len cap) := ⟨h.has.cell 0, h.has.cell 1, h.has.free 0, h.has.free 1⟩
theorem SmX.put (h : SmX W b v s a len cap) {t m : Int} {a2 : Option Addr} {len2 cap2 : Nat} (hE : Ex W t a2 len2 cap2 m) : SmX ((W.setCell ⟨b, 0, none⟩ (.int .i64 t)).setCell ⟨b, 1, none⟩ (.slice a2 len2 cap2)) b m t a2 len2 cap2 := by
  have h1 := h.has.put 0 (.int .i64 t)
  exact ⟨h1.put 1 _, (hE.off h.has (by decide) 0 _).off h1 (by decide) 1 _⟩
/-- a store into another box of another type, or of exact numbers -/
theorem SmX.off (h : SmX W b v s a len cap) {N T : Nat} {cs : Array Value} (hN : Has W N T cs) (hT : T ≠ 3) (hne : b ≠ N) (k : Nat) (u : Value) : SmX (W.setCell ⟨N, k, none⟩ u) b v s a len cap :=
  ⟨h.has.off (p := ⟨N, k, none⟩) hne u, h.ex.off hN hT k u⟩
end
theorem small126 {x : Int} (h : -85070591730234615865843651857942052864 ≤ x ∧ x ≤ 85070591730234615865843651857942052864) : Small x := by
  have h3' : (x.natAbs : Int) ≤ 85070591730234615865843651857942052864 := by omega
  have h5 : (1000 : Int) ^ 20 * 1 ≤ 1000 ^ (20 + 180) := by
    rw [Int.pow_add]; exact Int.mul_le_mul_of_nonneg_left (by have := pow_pos' 180; omega) (by decide)
  have h6 : (1000 : Int) ^ 20 = 1000000000000000000000000000000000000000000000000000000000000 := by decide
  have h7 : (1000 : Int) ^ (20 + 180) = 1000 ^ 200 := rfl
  rw [h6, h7] at h5
  unfold Small
  generalize (1000 : Int) ^ 200 = P at *
  omega
theorem SmX.of {W : World} {s : Int} {a : Option Addr} {len cap : Nat} {n : Int} (h : Ex W s a len cap n) : SmX (W.alloc (.cells #[.int .i64 s, .slice a len cap] 45)) W.heap.size n s a len cap :=
  ⟨Has.fresh _ _ _, h.below (boxed _ _)⟩
theorem SmX.lt {W : World} {b : Nat} {v s : Int} {a : Option Addr} {len cap : Nat} (h : SmX W b v s a len cap) : b < W.heap.size := h.has.lt
end Go.Proofs.Ytbcdfkcgcaifjaa

namespace Go.Proofs.Ytbcdfkcgcaifjaa
open Go.RowKit

theorem sumN_bd {f : Nat → Int} (hf : Amounts f) (n : Nat) : -(9223372036854775808 * (n : Int)) ≤ sumN f n ∧ sumN f n ≤ 9223372036854775808 * (n : Int) := by
  induction n with
  | zero => simp [sumN]
  | succ n ih =>
    have := hf n
    simp only [sumN]
    rw [show ((n + 1 : Nat) : Int) = (n : Int) + 1 by omega, Int.mul_add]
    omega
theorem ints_drew {W : World} {b n : Nat} {f : Nat → Int} (h : Ints W b n f) : Ints W.drew b n f := h
theorem rlisted_err {w w' : World} {E err : Int} {n : Nat} {v : Nat → Int} {e : Ending} (h : E = err) (h0 : err ≠ 0) (hb : Below w.heap.size w w') (he : e = .returned (.tuple #[.slice none 0 0, .int .i64 err])) : RListed w E n v e w' := by
  rw [h]; exact ⟨hb, .inl ⟨h0, he⟩⟩

def RAllPost (w : World) (price : Int) (f : Nat → Int) (n : Nat) (e : Ending) (w' : World) : Prop := RListed w (allE price f n) n (outV price f n) e w'
set_option maxHeartbeats 1000000 in
theorem rall_any (price : Int) (f : Nat → Int) (a : Option Addr) (n cap : Nat) (w : World) (hf : Amounts f) (ht : Am price) (hA : Arg w a n f) :
    Calls Try.prog 9 #[.int .i64 price, .slice a n cap] w (RAllPost w price f n) := by
  by_cases q : price < 0
  · have hE : allE price f n = 1 := by unfold allE; rw [if_pos q]
    clear hA hf ht
    have HE := Lib.hid hE
    clear hE
    go_enter Try.func9, Try.ntmps9
    go_wp2_with fail
    go_ret2
    exact rlisted_err HE.out (by decide) (Below.refl _ _) rfl
  · have hE : allE price f n = outE price f n := by unfold allE; rw [if_neg q]
    have HO := Lib.hid (rout_any price f a n cap w hf ht.1 ht.2 hA)
    have HE := Lib.hid hE
    clear hA hf ht hE
    go_enter Try.func9, Try.ntmps9
    go_wp2_with fail
    refine HO.out.mono ?_
    rintro e w1 ⟨hb, h⟩
    have HB := Lib.hid hb
    clear hb
    rcases h with ⟨he, rfl⟩ | ⟨he, p, c, rfl, hp, hi⟩
    · have HX := Lib.hid he
      clear he
      obtain ⟨E, hEd⟩ : ∃ E, E = outE price f n := ⟨_, rfl⟩
      rw [← hEd] at HX HE ⊢
      clear hEd
      go_wp2_with fail
      go_ret2
      exact rlisted_err HE.out HX.out HB.out rfl
    · have HX := Lib.hid (And.intro hp hi)
      have HY := Lib.hid he
      clear hp hi he
      go_wp2_with fail
      go_ret2
      unfold RAllPost
      rw [HE.out]
      exact ⟨HB.out, .inr ⟨HY.out, p, c, rfl, HX.out.1, HX.out.2⟩⟩

set_option maxRecDepth 100000 in
set_option maxHeartbeats 4000000 in
theorem rdisc_any (price : Int) (f : Nat → Int) (a : Option Addr) (n cap : Nat) (w : World) (hf : Amounts f) (ht : Am price) (hn : n ≤ 900) (hA : Arg w a n f) :
    Calls Try.prog 13 #[.int .i64 price, .slice a n cap] w fun e w' => e = .returned (.tuple #[.int .i64 (tellV (sumN f n - price)), .int .i64 (tellE (sumN f n - price))]) ∧ Below w.heap.size w w' := by
  have hbd := sumN_bd hf n
  have hs1 := sumN_small hf (k := n) (by omega)
  have hs2 := small64 ht.1 ht.2
  have hs3 : Small (sumN f n - price) := by unfold Am at ht; exact small126 ⟨by omega, by omega⟩
  have HTot := Lib.hid (total_arg f a n cap w hf (by omega) hA)
  obtain ⟨S, hS⟩ : ∃ S, S = sumN f n := ⟨_, rfl⟩
  rw [← hS] at HTot hs1 hs3 ⊢
  have HSm := Lib.hid (And.intro hs1 (And.intro hs2 hs3))
  have HF := Lib.hid (fun (s : Int) (a : Option Addr) (len cap : Nat) (W : World) (h : Ex W s a len cap (S - price)) => fit_any s (S - price) a len cap W h hs3)
  have HOf := Lib.hid (fun W => of_any price W ht.1 ht.2)
  obtain ⟨V, hV⟩ : ∃ V, V = tellV (S - price) := ⟨_, rfl⟩
  obtain ⟨E, hE⟩ : ∃ E, E = tellE (S - price) := ⟨_, rfl⟩
  rw [← hV, ← hE] at HF ⊢
  clear hbd hs1 hs2 hs3 hS hV hE ht hf hA
  go_enter Try.func13, Try.ntmps13
  go_wp2_with fail
  refine HTot.out.mono ?_
  rintro e w1 ⟨s1, x1, n1, p1, rfl, hE1, hb⟩
  have HB1 := Lib.hid hb
  have HE1 := Lib.hid hE1
  clear hb hE1
  go_wp2_with fail
  refine (HOf.out _).mono ?_
  rintro e w2 ⟨s2, x2, n2, p2, rfl, hE2, hb⟩
  have HB2 := Lib.hid (up2 HB1.out hb)
  have HE1 := Lib.hid (HE1.out.below hb)
  have HE2 := Lib.hid hE2
  clear hb hE2
  go_wp2_with fail
  refine (less_ex s1 s2 S price x1 x2 n1 n2 p1 p2 _ HE1.out HE2.out HSm.out.1 HSm.out.2.1).mono ?_
  rintro e w3 ⟨s3, x3, n3, p3, rfl, hE3, hb⟩
  have HB3 := Lib.hid (up2 HB2.out hb)
  have HE3 := Lib.hid hE3
  clear hb hE3
  go_wp2_with fail
  refine (HF.out s3 x3 n3 p3 _ HE3.out).mono ?_
  rintro e w4 ⟨rfl, hb⟩
  have HB4 := Lib.hid (up2 HB3.out hb)
  clear hb
  go_wp2_with fail
  go_ret2
  exact ⟨rfl, HB4.out⟩
end Go.Proofs.Ytbcdfkcgcaifjaa
