/- AllotTells. -/
import Derived.Test.YtbcdfkcgcaifjaaAlF
import Derived.Test.YtbcdfkcgcaifjaaAlK
import Derived.Test.YtbcdfkcgcaifjaaAlM
namespace Go.Proofs.Ytbcdfkcgcaifjaa
open Go.RowKit

def lenE (E : Int) (n : Nat) : Nat := if E = 0 then n else 0
theorem lenE_le (E : Int) (n : Nat) : lenE E n ≤ n := by unfold lenE; split <;> omega
/-- an answer of a list or an error, as one -/
def Bth (w : World) (E : Int) (n : Nat) (v : Nat → Int) (e : Ending) (w' : World) : Prop :=
  ∃ a c, e = .returned (.tuple #[.slice a (lenE E n) c, .int .i64 E]) ∧ Below w.heap.size w w' ∧ Arg w' a (lenE E n) v
theorem listed_bth {w w' : World} {E : Int} {n : Nat} {v : Nat → Int} {e : Ending} (h : Listed w E n v e w') : Bth w E n v e w' := by
  obtain ⟨hb, ⟨h0, he⟩ | ⟨h0, p, he, _, hi⟩⟩ := h
  · exact ⟨none, 0, by unfold lenE; rw [if_neg h0]; exact he, hb, by unfold lenE; rw [if_neg h0]; exact fun q => by omega⟩
  · exact ⟨some ⟨p, 0, none⟩, n, by unfold lenE; rw [if_pos h0, h0]; exact he, hb, by unfold lenE; rw [if_pos h0]; exact ints_arg0 hi⟩
theorem rlisted_bth {w w' : World} {E : Int} {n : Nat} {v : Nat → Int} {e : Ending} (h : RListed w E n v e w') : Bth w E n v e w' := by
  obtain ⟨hb, ⟨h0, he⟩ | ⟨h0, p, c, he, _, hi⟩⟩ := h
  · exact ⟨none, 0, by unfold lenE; rw [if_neg h0]; exact he, hb, by unfold lenE; rw [if_neg h0]; exact fun q => by omega⟩
  · exact ⟨some ⟨p, 0, none⟩, c, by unfold lenE; rw [if_pos h0, h0]; exact he, hb, by unfold lenE; rw [if_pos h0]; exact ints_arg0 hi⟩

set_option maxRecDepth 100000 in
set_option maxHeartbeats 2000000 in
theorem tells_long13 (price : Int) (a c d : Option Addr) (n k m capa capc capd : Nat) (w : World) (h : 70 < n ∨ 70 < k ∨ 70 < m) :
    Calls Try.prog 3 #[.int .i64 price, .slice a n capa, .slice c k capc, .slice d m capd] w fun e w' => e = .returned (.bool true) ∧ Below w.heap.size w w' := by
  have key : ((70 : Int) < (n : Int)) ∨ (¬ (70 : Int) < (n : Int) ∧ (70 : Int) < (k : Int)) ∨ (¬ (70 : Int) < (n : Int) ∧ ¬ (70 : Int) < (k : Int) ∧ (70 : Int) < (m : Int)) := by omega
  clear h
  rcases key with h1 | ⟨h1, h2⟩ | ⟨h1, h2, h3⟩
  all_goals
    go_enter Try.func3, Try.ntmps3
    go_wp2_with fail
    refine (awake_any13 _).mono ?_
    rintro e w1 ⟨rfl, hb⟩
    have HB := Lib.hid hb
    clear hb
    go_wp2_with fail
    go_ret
    exact ⟨rfl, HB.out⟩

set_option maxRecDepth 100000 in
set_option maxHeartbeats 8000000 in
theorem tells_short13 (price : Int) (f g p : Nat → Int) (a c d : Option Addr) (n k m capa capc capd : Nat) (w : World) (hf : Amounts f) (hg : Amounts g) (ht : Am price) (hn : n ≤ 70) (hk : k ≤ 70) (hm : m ≤ 70) (hA : Arg w a n f) (hC : Arg w c k g) (hD : Arg w d m p) :
    Calls Try.prog 3 #[.int .i64 price, .slice a n capa, .slice c k capc, .slice d m capd] w fun e w' => e = .returned (.bool true) ∧ Below w.heap.size w w' := by
  have z1 : ¬ (70 : Int) < (n : Int) := by omega
  have z2 : ¬ (70 : Int) < (k : Int) := by omega
  have z3 : ¬ (70 : Int) < (m : Int) := by omega
  have H1 := Lib.hid (fun (W : World) (q : Below w.heap.size w W) => (all_any price f a n capa W hf ht (hA.up13 q)).mono fun _ _ h => listed_bth h.1)
  have R1 := Lib.hid (fun (W : World) (q : Below w.heap.size w W) => (rall_any price f a n capa W hf ht (hA.up13 q)).mono fun _ _ h => rlisted_bth h)
  have H2 := Lib.hid (fun (W : World) (q : Below w.heap.size w W) => (some_any price f p a d n m capa capd W hf ht (by omega) (by omega) (hA.up13 q) (hD.up13 q)).mono fun _ _ h => listed_bth h.1)
  have R2 := Lib.hid (fun (W : World) (q : Below w.heap.size w W) => (rsome_any price f p a d n m capa capd W hf ht (by omega) (by omega) (hA.up13 q) (hD.up13 q)).mono fun _ _ h => rlisted_bth h)
  have H3 := Lib.hid (fun (W : World) (q : Below w.heap.size w W) => disc_any price f a n capa W hf ht (by omega) (hA.up13 q))
  have R3 := Lib.hid (fun (W : World) (q : Below w.heap.size w W) => rdisc_any price f a n capa W hf ht (by omega) (hA.up13 q))
  have H4 := Lib.hid (fun (W : World) (q : Below w.heap.size w W) => (again_any price g f c a k n capc capa W hg hf ht (by omega) (hC.up13 q) (hA.up13 q)).mono fun _ _ h => listed_bth h.1)
  have R4 := Lib.hid (fun (W : World) (q : Below w.heap.size w W) => (ragain_any price g f c a k n capc capa W hg hf ht (by omega) (hC.up13 q) (hA.up13 q)).mono fun _ _ h => rlisted_bth h)
  obtain ⟨E1, hE1⟩ : ∃ E1, E1 = allE price f n := ⟨_, rfl⟩
  obtain ⟨E2, hE2⟩ : ∃ E2, E2 = someE price f n p m := ⟨_, rfl⟩
  obtain ⟨E4, hE4⟩ : ∃ E4, E4 = againE price g k f n := ⟨_, rfl⟩
  obtain ⟨u1, hu1⟩ : ∃ u1, u1 = outV price f n := ⟨_, rfl⟩
  obtain ⟨u2, hu2⟩ : ∃ u2, u2 = someV price f n p m := ⟨_, rfl⟩
  obtain ⟨u4, hu4⟩ : ∃ u4, u4 = againV price g k f n := ⟨_, rfl⟩
  obtain ⟨V3, hV3⟩ : ∃ V3, V3 = tellV (sumN f n - price) := ⟨_, rfl⟩
  obtain ⟨E3, hE3⟩ : ∃ E3, E3 = tellE (sumN f n - price) := ⟨_, rfl⟩
  unfold Bth at H1 R1 H2 R2 H4 R4
  have b1 := lenE_le E1 n
  have b2 := lenE_le E2 n
  have b4 := lenE_le E4 n
  rw [← hE1, ← hu1] at H1 R1
  rw [← hE2, ← hu2] at H2 R2
  rw [← hE4, ← hu4] at H4 R4
  rw [← hV3, ← hE3] at H3 R3
  obtain ⟨n1, hn1⟩ : ∃ n1, n1 = lenE E1 n := ⟨_, rfl⟩
  obtain ⟨n2, hn2⟩ : ∃ n2, n2 = lenE E2 n := ⟨_, rfl⟩
  obtain ⟨n4, hn4⟩ : ∃ n4, n4 = lenE E4 n := ⟨_, rfl⟩
  rw [← hn1] at H1 R1 b1
  rw [← hn2] at H2 R2 b2
  rw [← hn4] at H4 R4 b4
  have BB : Hid (n1 ≤ 1000 ∧ n2 ≤ 1000 ∧ n4 ≤ 1000) := ⟨by omega, by omega, by omega⟩
  clear hE1 hE2 hE3 hE4 hu1 hu2 hu4 hV3 hn1 hn2 hn4 b1 b2 b4 hf hg ht hA hC hD
  go_enter Try.func3, Try.ntmps3
  go_wp2_with fail
  refine (awake_any13 _).mono ?_
  rintro e w1 ⟨rfl, hb⟩
  have HB := Lib.hid hb
  clear hb
  go_wp2_with fail
  refine (H1.out _ HB.out).mono ?_
  rintro e w2 ⟨a1, c1, rfl, hb, hv⟩
  have HB := Lib.hid (up2 HB.out hb)
  have P1 := Lib.hid hv
  clear hb hv H1
  go_wp2_with fail
  refine (R1.out _ HB.out).mono ?_
  rintro e w3 ⟨a1', c1', rfl, hb, hv⟩
  have HB := Lib.hid (up2 HB.out hb)
  have P1 := Lib.hid (P1.out.up13 hb)
  have Q1 := Lib.hid hv
  clear hb hv R1
  go_wp2_with fail
  refine (H2.out _ HB.out).mono ?_
  rintro e w4 ⟨a2, c2, rfl, hb, hv⟩
  have HB := Lib.hid (up2 HB.out hb)
  have P1 := Lib.hid (P1.out.up13 hb)
  have Q1 := Lib.hid (Q1.out.up13 hb)
  have P2 := Lib.hid hv
  clear hb hv H2
  go_wp2_with fail
  refine (R2.out _ HB.out).mono ?_
  rintro e w5 ⟨a2', c2', rfl, hb, hv⟩
  have HB := Lib.hid (up2 HB.out hb)
  have P1 := Lib.hid (P1.out.up13 hb)
  have Q1 := Lib.hid (Q1.out.up13 hb)
  have P2 := Lib.hid (P2.out.up13 hb)
  have Q2 := Lib.hid hv
  clear hb hv R2
  go_wp2_with fail
  refine (H3.out _ HB.out).mono ?_
  rintro e w6 ⟨rfl, hb⟩
  have HB := Lib.hid (up2 HB.out hb)
  have P1 := Lib.hid (P1.out.up13 hb)
  have Q1 := Lib.hid (Q1.out.up13 hb)
  have P2 := Lib.hid (P2.out.up13 hb)
  have Q2 := Lib.hid (Q2.out.up13 hb)
  clear hb H3
  go_wp2_with fail
  refine (R3.out _ HB.out).mono ?_
  rintro e w7 ⟨rfl, hb⟩
  have HB := Lib.hid (up2 HB.out hb)
  have P1 := Lib.hid (P1.out.up13 hb)
  have Q1 := Lib.hid (Q1.out.up13 hb)
  have P2 := Lib.hid (P2.out.up13 hb)
  have Q2 := Lib.hid (Q2.out.up13 hb)
  clear hb R3
  go_wp2_with fail
  refine (H4.out _ HB.out).mono ?_
  rintro e w8 ⟨a4, c4, rfl, hb, hv⟩
  have HB := Lib.hid (up2 HB.out hb)
  have P1 := Lib.hid (P1.out.up13 hb)
  have Q1 := Lib.hid (Q1.out.up13 hb)
  have P2 := Lib.hid (P2.out.up13 hb)
  have Q2 := Lib.hid (Q2.out.up13 hb)
  have P4 := Lib.hid hv
  clear hb hv H4
  go_wp2_with fail
  refine (R4.out _ HB.out).mono ?_
  rintro e w9 ⟨a4', c4', rfl, hb, hv⟩
  have HB9 := Lib.hid (up2 HB.out hb)
  have S1 := Lib.hid (P1.out.up13 hb)
  have T1 := Lib.hid (Q1.out.up13 hb)
  have S2 := Lib.hid (P2.out.up13 hb)
  have T2 := Lib.hid (Q2.out.up13 hb)
  have S4 := Lib.hid (P4.out.up13 hb)
  have T4 := Lib.hid hv
  clear hb hv R4
  go_wp2_with fail
  refine (same_yes u1 u1 a1 a1' n1 c1 c1' w9 BB.out.1 S1.out T1.out (fun _ _ => rfl)).mono ?_
  rintro e w10 ⟨rfl, hb⟩
  have HB10 := Lib.hid (up2 HB9.out hb)
  have S2 := Lib.hid (S2.out.up13 hb)
  have T2 := Lib.hid (T2.out.up13 hb)
  have S4 := Lib.hid (S4.out.up13 hb)
  have T4 := Lib.hid (T4.out.up13 hb)
  clear hb
  go_wp2_with fail
  refine (same_yes u2 u2 a2 a2' n2 c2 c2' w10 BB.out.2.1 S2.out T2.out (fun _ _ => rfl)).mono ?_
  rintro e w11 ⟨rfl, hb⟩
  have HB11 := Lib.hid (up2 HB10.out hb)
  have S4 := Lib.hid (S4.out.up13 hb)
  have T4 := Lib.hid (T4.out.up13 hb)
  clear hb
  go_wp2_with fail
  refine (same_yes u4 u4 a4 a4' n4 c4 c4' w11 BB.out.2.2 S4.out T4.out (fun _ _ => rfl)).mono ?_
  rintro e w12 ⟨rfl, hb⟩
  have HB12 := Lib.hid (up2 HB11.out hb)
  clear hb
  go_wp2_with fail
  go_ret
  exact ⟨rfl, HB12.out⟩

theorem tells_law13 (price : Int) (f g p : Nat → Int) (a c d : Option Addr) (n k m capa capc capd : Nat) (w : World) (hf : Amounts f) (hg : Amounts g) (ht : Am price) (hA : Arg w a n f) (hC : Arg w c k g) (hD : Arg w d m p) :
    Calls Try.prog 3 #[.int .i64 price, .slice a n capa, .slice c k capc, .slice d m capd] w fun e w' => e = .returned (.bool true) ∧ Below w.heap.size w w' := by
  by_cases h : 70 < n ∨ 70 < k ∨ 70 < m
  · exact tells_long13 price a c d n k m capa capc capd w h
  · exact tells_short13 price f g p a c d n k m capa capc capd w hf hg ht (by omega) (by omega) (by omega) hA hC hD
end Go.Proofs.Ytbcdfkcgcaifjaa
