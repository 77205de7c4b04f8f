/- Sums and differences are as the document says: the law's walk. -/
import Derived.Test.YtpcfobfmccedbaaZ
import Derived.Test.YtpcfobfmccedbaaL
namespace Go.Proofs.Ytpcfobfmccedbaa
open Go.RowKit

set_option maxHeartbeats 400000 in
theorem sum_zero (a : Option Addr) (cap : Nat) (w : World) :
    Calls Try.prog 14 #[.slice a 0 cap] w fun e w' => e = .returned (.tuple #[.int .i64 0, .int .i64 0]) ∧ Below w.heap.size w w' := by
  go_enter Try.func14, Try.ntmps14
  go_wp2_with fail
  go_loopw [6, 9] (fun _ i wr => i = .int .i64 0 ∧ SumAt w 0 wr) (fun _ _ _ => 0)
  case atStart => exact ⟨rfl, SumAt.start w⟩
  case round =>
    obtain ⟨rfl, hS⟩ := hrel
    have HS := Lib.hid hS
    clear hS
    obtain ⟨c0, c1, e0, e1⟩ := HS.out.2
    go_wp2_with fail
    refine (narrow_fit 0 _ (by omega) (by omega)).mono ?_
    rintro e w2 ⟨rfl, hb2⟩
    go_wp2_with fail
    go_ret2
    exact ⟨rfl, HS.out.1.trans (hb2.mono (by have := HS.out.2.lt; omega))⟩

set_option maxHeartbeats 400000 in
theorem total_zero (a0 : Option Addr) (cap : Nat) (w : World) : Calls Try.prog 15 #[.slice a0 0 cap] w (ExPost w 0) := by
  have HT := Lib.hid (tat_start w)
  go_enter Try.func15, Try.ntmps15
  go_wp2_with fail
  obtain ⟨W0, hW0⟩ : ∃ W0, W0 = ((w.alloc (.cells #[.int .i64 0, .slice none 0 0] 30)).alloc (.cells #[.int .i64 0, .slice none 0 0] 30)) := ⟨_, rfl⟩
  rw [← hW0] at HT
  rw [← hW0]
  clear hW0
  go_loopw [4] (fun i wr => i = .int .i64 0 ∧ TAt w 0 0 none 0 0 wr) (fun _ _ => 0)
  case atStart => exact ⟨rfl, HT.out⟩
  case round =>
    obtain ⟨rfl, hT⟩ := hrel
    have HS := Lib.hid hT
    clear hT
    obtain ⟨c0, c1, e0, e1⟩ := HS.out.2.2.2.1
    obtain ⟨d0, d1, g0, g1⟩ := HS.out.2.2.1.1
    go_wp2_with fail
    exact bodyPost_ret (v := .agg #[.int .i64 0, .slice none 0 0]) (by simp [results, Try.results15, go_sem, d0, d1]) rfl
      ⟨0, none, 0, 0, rfl, ex_store HS.out.2.2.1 HS.out.2.2.2.2.2 _ _, (HS.out.1.setCell (Nat.le_refl _) _).setCell (Nat.le_refl _) _⟩

/-- what the law needs of a row of amounts -/
def Told (w : World) (a : Option Addr) (len cap : Nat) (S : Int) : Prop :=
  Small S ∧ (∀ W, Below w.heap.size w W → Calls Try.prog 14 #[.slice a len cap] W fun e w' => e = .returned (.tuple #[.int .i64 (tellV S), .int .i64 (tellE S)]) ∧ Below W.heap.size W w') ∧
  (∀ W, Below w.heap.size w W → Calls Try.prog 15 #[.slice a len cap] W (ExPost W S))

theorem told_zero (w : World) (a : Option Addr) (cap : Nat) : Told w a 0 cap 0 :=
  ⟨small64 (by decide) (by decide), fun W _ => sum_zero a cap W, fun W _ => total_zero a cap W⟩
theorem told_some (f : Nat → Int) (hf : Amounts f) (b off len cap : Nat) (w : World) (hl : len ≤ 1000) (hc : ∀ k, k < len → w.cell? ⟨b, off + k, none⟩ = some (.int .i64 (f k))) : Told w (some ⟨b, off, none⟩) len cap (sumTo f len) := by
  have key : ∀ W, Below w.heap.size w W → ∀ k, k < len → W.cell? ⟨b, off + k, none⟩ = some (.int .i64 (f k)) := fun W hW k hk =>
    (hW.cell (p := ⟨b, off + k, none⟩) (World.block_lt_of_cell? (a := ⟨b, off + k, none⟩) _ (hc k hk))).trans (hc k hk)
  exact ⟨sum_small hf hl, fun W hW => sum_some f hf b off len cap W (by omega) (key W hW), fun W hW => total_some f hf b off len cap W hl (key W hW)⟩

theorem small_add {a b : Int} (ha : Am a) (hb : Am b) : Small (a + b) := by
  unfold Am at *
  have := sum_small (f := fun k => if k = 0 then a else b) (k := 2) (by intro k; by_cases h : k = 0 <;> simp [h] <;> omega) (by omega)
  simpa [sumTo] using this
theorem small_sub {a b : Int} (ha : Am a) (hb : Am b) : Small (a - b) := by
  unfold Am at *
  have := sum_small (f := fun k => if k = 0 then a else if k = 1 then -(b + 1) else 1) (k := 3) (by
    intro k
    by_cases h : k = 0
    · simp [h]; omega
    · by_cases h1 : k = 1
      · simp [h1]; omega
      · simp [h, h1]) (by omega)
  have e : sumTo (fun k => if k = 0 then a else if k = 1 then -(b + 1) else 1) 3 = a - b := by simp [sumTo]; omega
  rw [e] at this
  exact this

set_option maxRecDepth 100000 in
set_option maxHeartbeats 400000 in
theorem sums_long (a b c : Int) (x : Option Addr) (len cap : Nat) (w : World) (h : 200 < len) (h2 : len ≤ 9223372036854775807) :
    Calls Try.prog 3 #[.int .i64 a, .int .i64 b, .int .i64 c, .slice x len cap] w fun e w' => e = .returned (.bool true) ∧ Below w.heap.size w w' := by
  go_enter Try.func3, Try.ntmps3
  go_wp2_with fail
  refine (awake_any _).mono ?_
  rintro _ w1 ⟨rfl, hb1⟩
  have B1 := Lib.hid hb1
  clear hb1
  go_wp2_with fail
  go_ret
  exact ⟨rfl, B1.out⟩

set_option maxRecDepth 100000 in
set_option maxHeartbeats 800000 in
theorem sums_core (a b c S : Int) (x : Option Addr) (len cap : Nat) (w : World) (h : len ≤ 200) (ha : Am a) (hb : Am b) (hT : Told w x len cap S)
    (t : (decide (a < b) = true ∧ clampV a b c = b) ∨ (decide (a < b) = false ∧ decide (c < a) = true ∧ clampV a b c = c) ∨ (decide (a < b) = false ∧ decide (c < a) = false ∧ clampV a b c = a)) :
    Calls Try.prog 3 #[.int .i64 a, .int .i64 b, .int .i64 c, .slice x len cap] w fun e w' => e = .returned (.bool true) ∧ Below w.heap.size w w' := by
  have HT := Lib.hid hT
  have MA := Lib.hid ha; have MB := Lib.hid hb
  clear hT
  unfold Am at ha hb
  obtain ⟨a1, a2⟩ := ha
  obtain ⟨b1, b2⟩ := hb
  rcases t with ⟨t1, t2⟩ | ⟨t1, t2, t3⟩ | ⟨t1, t2, t3⟩
  · have HCl := Lib.hid t2
    clear t2
    go_enter Try.func3, Try.ntmps3
    go_wp2_with fail
    refine (awake_any _).mono ?_
    rintro _ w1 ⟨rfl, hb1⟩
    have B1 := Lib.hid hb1
    clear hb1
    go_wp2_with fail
    refine (add_any a b _ a1 a2 b1 b2).mono ?_
    rintro _ w2 ⟨rfl, hb2⟩
    have B2 := Lib.hid (B1.out.trans (hb2.mono B1.out.size))
    clear hb2 B1
    go_wp2_with fail
    refine (of_any a _ a1 a2).mono ?_
    rintro _ w3 ⟨s3, x3, l3, p3, rfl, hE3, hb3⟩
    have B3 := Lib.hid (B2.out.trans (hb3.mono B2.out.size))
    have E3 := Lib.hid hE3
    clear hb3 B2 hE3
    go_wp2_with fail
    refine (of_any b _ b1 b2).mono ?_
    rintro _ w4 ⟨s4, x4, l4, p4, rfl, hE4, hb4⟩
    have B4 := Lib.hid (B3.out.trans (hb4.mono B3.out.size))
    have E4 := Lib.hid hE4
    have E3' := Lib.hid (E3.out.below hb4)
    clear hb4 B3 hE4 E3
    go_wp2_with fail
    refine (plus_ex s3 s4 a b x3 x4 l3 l4 p3 p4 _ E3'.out E4.out (small64 a1 a2) (small64 b1 b2)).mono ?_
    rintro _ w5 ⟨s5, x5, l5, p5, rfl, hE5, hb5⟩
    have B5 := Lib.hid (B4.out.trans (hb5.mono B4.out.size))
    have E5 := Lib.hid hE5
    clear hb5 B4 hE5 E3' E4
    go_wp2_with fail
    refine (fit_any s5 (a + b) x5 l5 p5 _ E5.out (small_add MA.out MB.out)).mono ?_
    rintro _ w6 ⟨rfl, hb6⟩
    have B6 := Lib.hid (B5.out.trans (hb6.mono B5.out.size))
    clear hb6 B5 E5
    go_wp2_with fail
    refine (less_calls a b _ a1 a2 b1 b2).mono ?_
    rintro _ w7 ⟨rfl, hb7⟩
    have B7 := Lib.hid (B6.out.trans (hb7.mono B6.out.size))
    clear hb7 B6
    go_wp2_with fail
    refine (of_any a _ a1 a2).mono ?_
    rintro _ w8 ⟨s8, x8, l8, p8, rfl, hE8, hb8⟩
    have B8 := Lib.hid (B7.out.trans (hb8.mono B7.out.size))
    have E8 := Lib.hid hE8
    clear hb8 B7 hE8
    go_wp2_with fail
    refine (of_any b _ b1 b2).mono ?_
    rintro _ w9 ⟨s9, x9, l9, p9, rfl, hE9, hb9⟩
    have B9 := Lib.hid (B8.out.trans (hb9.mono B8.out.size))
    have E9 := Lib.hid hE9
    have E8' := Lib.hid (E8.out.below hb9)
    clear hb9 B8 hE9 E8
    go_wp2_with fail
    refine (less_ex s8 s9 a b x8 x9 l8 l9 p8 p9 _ E8'.out E9.out (small64 a1 a2) (small64 b1 b2)).mono ?_
    rintro _ w10 ⟨s10, x10, l10, p10, rfl, hE10, hb10⟩
    have B10 := Lib.hid (B9.out.trans (hb10.mono B9.out.size))
    have E10 := Lib.hid hE10
    clear hb10 B9 hE10 E8' E9
    go_wp2_with fail
    refine (fit_any s10 (a - b) x10 l10 p10 _ E10.out (small_sub MA.out MB.out)).mono ?_
    rintro _ w11 ⟨rfl, hb11⟩
    have B11 := Lib.hid (B10.out.trans (hb11.mono B10.out.size))
    clear hb11 B10 E10
    go_wp2_with fail
    refine (HT.out.2.1 _ B11.out).mono ?_
    rintro _ w12 ⟨rfl, hb12⟩
    have B12 := Lib.hid (B11.out.trans (hb12.mono B11.out.size))
    clear hb12 B11
    go_wp2_with fail
    refine (HT.out.2.2 _ B12.out).mono ?_
    rintro _ w13 ⟨s13, x13, l13, p13, rfl, hE13, hb13⟩
    have B13 := Lib.hid (B12.out.trans (hb13.mono B12.out.size))
    have E13 := Lib.hid hE13
    clear hb13 B12 hE13
    go_wp2_with fail
    refine (fit_any s13 S x13 l13 p13 _ E13.out HT.out.1).mono ?_
    rintro _ w14 ⟨rfl, hb14⟩
    have B14 := Lib.hid (B13.out.trans (hb14.mono B13.out.size))
    clear hb14 B13 E13
    go_wp2_with fail
    refine (clamp_any a b c _).mono ?_
    rintro _ w15 ⟨rfl, rfl⟩
    rw [HCl.out]
    go_wp2_with fail
    go_ret
    exact ⟨rfl, B14.out⟩
  · have HCl := Lib.hid t3
    clear t3
    go_enter Try.func3, Try.ntmps3
    go_wp2_with fail
    refine (awake_any _).mono ?_
    rintro _ w1 ⟨rfl, hb1⟩
    have B1 := Lib.hid hb1
    clear hb1
    go_wp2_with fail
    refine (add_any a b _ a1 a2 b1 b2).mono ?_
    rintro _ w2 ⟨rfl, hb2⟩
    have B2 := Lib.hid (B1.out.trans (hb2.mono B1.out.size))
    clear hb2 B1
    go_wp2_with fail
    refine (of_any a _ a1 a2).mono ?_
    rintro _ w3 ⟨s3, x3, l3, p3, rfl, hE3, hb3⟩
    have B3 := Lib.hid (B2.out.trans (hb3.mono B2.out.size))
    have E3 := Lib.hid hE3
    clear hb3 B2 hE3
    go_wp2_with fail
    refine (of_any b _ b1 b2).mono ?_
    rintro _ w4 ⟨s4, x4, l4, p4, rfl, hE4, hb4⟩
    have B4 := Lib.hid (B3.out.trans (hb4.mono B3.out.size))
    have E4 := Lib.hid hE4
    have E3' := Lib.hid (E3.out.below hb4)
    clear hb4 B3 hE4 E3
    go_wp2_with fail
    refine (plus_ex s3 s4 a b x3 x4 l3 l4 p3 p4 _ E3'.out E4.out (small64 a1 a2) (small64 b1 b2)).mono ?_
    rintro _ w5 ⟨s5, x5, l5, p5, rfl, hE5, hb5⟩
    have B5 := Lib.hid (B4.out.trans (hb5.mono B4.out.size))
    have E5 := Lib.hid hE5
    clear hb5 B4 hE5 E3' E4
    go_wp2_with fail
    refine (fit_any s5 (a + b) x5 l5 p5 _ E5.out (small_add MA.out MB.out)).mono ?_
    rintro _ w6 ⟨rfl, hb6⟩
    have B6 := Lib.hid (B5.out.trans (hb6.mono B5.out.size))
    clear hb6 B5 E5
    go_wp2_with fail
    refine (less_calls a b _ a1 a2 b1 b2).mono ?_
    rintro _ w7 ⟨rfl, hb7⟩
    have B7 := Lib.hid (B6.out.trans (hb7.mono B6.out.size))
    clear hb7 B6
    go_wp2_with fail
    refine (of_any a _ a1 a2).mono ?_
    rintro _ w8 ⟨s8, x8, l8, p8, rfl, hE8, hb8⟩
    have B8 := Lib.hid (B7.out.trans (hb8.mono B7.out.size))
    have E8 := Lib.hid hE8
    clear hb8 B7 hE8
    go_wp2_with fail
    refine (of_any b _ b1 b2).mono ?_
    rintro _ w9 ⟨s9, x9, l9, p9, rfl, hE9, hb9⟩
    have B9 := Lib.hid (B8.out.trans (hb9.mono B8.out.size))
    have E9 := Lib.hid hE9
    have E8' := Lib.hid (E8.out.below hb9)
    clear hb9 B8 hE9 E8
    go_wp2_with fail
    refine (less_ex s8 s9 a b x8 x9 l8 l9 p8 p9 _ E8'.out E9.out (small64 a1 a2) (small64 b1 b2)).mono ?_
    rintro _ w10 ⟨s10, x10, l10, p10, rfl, hE10, hb10⟩
    have B10 := Lib.hid (B9.out.trans (hb10.mono B9.out.size))
    have E10 := Lib.hid hE10
    clear hb10 B9 hE10 E8' E9
    go_wp2_with fail
    refine (fit_any s10 (a - b) x10 l10 p10 _ E10.out (small_sub MA.out MB.out)).mono ?_
    rintro _ w11 ⟨rfl, hb11⟩
    have B11 := Lib.hid (B10.out.trans (hb11.mono B10.out.size))
    clear hb11 B10 E10
    go_wp2_with fail
    refine (HT.out.2.1 _ B11.out).mono ?_
    rintro _ w12 ⟨rfl, hb12⟩
    have B12 := Lib.hid (B11.out.trans (hb12.mono B11.out.size))
    clear hb12 B11
    go_wp2_with fail
    refine (HT.out.2.2 _ B12.out).mono ?_
    rintro _ w13 ⟨s13, x13, l13, p13, rfl, hE13, hb13⟩
    have B13 := Lib.hid (B12.out.trans (hb13.mono B12.out.size))
    have E13 := Lib.hid hE13
    clear hb13 B12 hE13
    go_wp2_with fail
    refine (fit_any s13 S x13 l13 p13 _ E13.out HT.out.1).mono ?_
    rintro _ w14 ⟨rfl, hb14⟩
    have B14 := Lib.hid (B13.out.trans (hb14.mono B13.out.size))
    clear hb14 B13 E13
    go_wp2_with fail
    refine (clamp_any a b c _).mono ?_
    rintro _ w15 ⟨rfl, rfl⟩
    rw [HCl.out]
    go_wp2_with fail
    go_ret
    exact ⟨rfl, B14.out⟩
  · have HCl := Lib.hid t3
    clear t3
    go_enter Try.func3, Try.ntmps3
    go_wp2_with fail
    refine (awake_any _).mono ?_
    rintro _ w1 ⟨rfl, hb1⟩
    have B1 := Lib.hid hb1
    clear hb1
    go_wp2_with fail
    refine (add_any a b _ a1 a2 b1 b2).mono ?_
    rintro _ w2 ⟨rfl, hb2⟩
    have B2 := Lib.hid (B1.out.trans (hb2.mono B1.out.size))
    clear hb2 B1
    go_wp2_with fail
    refine (of_any a _ a1 a2).mono ?_
    rintro _ w3 ⟨s3, x3, l3, p3, rfl, hE3, hb3⟩
    have B3 := Lib.hid (B2.out.trans (hb3.mono B2.out.size))
    have E3 := Lib.hid hE3
    clear hb3 B2 hE3
    go_wp2_with fail
    refine (of_any b _ b1 b2).mono ?_
    rintro _ w4 ⟨s4, x4, l4, p4, rfl, hE4, hb4⟩
    have B4 := Lib.hid (B3.out.trans (hb4.mono B3.out.size))
    have E4 := Lib.hid hE4
    have E3' := Lib.hid (E3.out.below hb4)
    clear hb4 B3 hE4 E3
    go_wp2_with fail
    refine (plus_ex s3 s4 a b x3 x4 l3 l4 p3 p4 _ E3'.out E4.out (small64 a1 a2) (small64 b1 b2)).mono ?_
    rintro _ w5 ⟨s5, x5, l5, p5, rfl, hE5, hb5⟩
    have B5 := Lib.hid (B4.out.trans (hb5.mono B4.out.size))
    have E5 := Lib.hid hE5
    clear hb5 B4 hE5 E3' E4
    go_wp2_with fail
    refine (fit_any s5 (a + b) x5 l5 p5 _ E5.out (small_add MA.out MB.out)).mono ?_
    rintro _ w6 ⟨rfl, hb6⟩
    have B6 := Lib.hid (B5.out.trans (hb6.mono B5.out.size))
    clear hb6 B5 E5
    go_wp2_with fail
    refine (less_calls a b _ a1 a2 b1 b2).mono ?_
    rintro _ w7 ⟨rfl, hb7⟩
    have B7 := Lib.hid (B6.out.trans (hb7.mono B6.out.size))
    clear hb7 B6
    go_wp2_with fail
    refine (of_any a _ a1 a2).mono ?_
    rintro _ w8 ⟨s8, x8, l8, p8, rfl, hE8, hb8⟩
    have B8 := Lib.hid (B7.out.trans (hb8.mono B7.out.size))
    have E8 := Lib.hid hE8
    clear hb8 B7 hE8
    go_wp2_with fail
    refine (of_any b _ b1 b2).mono ?_
    rintro _ w9 ⟨s9, x9, l9, p9, rfl, hE9, hb9⟩
    have B9 := Lib.hid (B8.out.trans (hb9.mono B8.out.size))
    have E9 := Lib.hid hE9
    have E8' := Lib.hid (E8.out.below hb9)
    clear hb9 B8 hE9 E8
    go_wp2_with fail
    refine (less_ex s8 s9 a b x8 x9 l8 l9 p8 p9 _ E8'.out E9.out (small64 a1 a2) (small64 b1 b2)).mono ?_
    rintro _ w10 ⟨s10, x10, l10, p10, rfl, hE10, hb10⟩
    have B10 := Lib.hid (B9.out.trans (hb10.mono B9.out.size))
    have E10 := Lib.hid hE10
    clear hb10 B9 hE10 E8' E9
    go_wp2_with fail
    refine (fit_any s10 (a - b) x10 l10 p10 _ E10.out (small_sub MA.out MB.out)).mono ?_
    rintro _ w11 ⟨rfl, hb11⟩
    have B11 := Lib.hid (B10.out.trans (hb11.mono B10.out.size))
    clear hb11 B10 E10
    go_wp2_with fail
    refine (HT.out.2.1 _ B11.out).mono ?_
    rintro _ w12 ⟨rfl, hb12⟩
    have B12 := Lib.hid (B11.out.trans (hb12.mono B11.out.size))
    clear hb12 B11
    go_wp2_with fail
    refine (HT.out.2.2 _ B12.out).mono ?_
    rintro _ w13 ⟨s13, x13, l13, p13, rfl, hE13, hb13⟩
    have B13 := Lib.hid (B12.out.trans (hb13.mono B12.out.size))
    have E13 := Lib.hid hE13
    clear hb13 B12 hE13
    go_wp2_with fail
    refine (fit_any s13 S x13 l13 p13 _ E13.out HT.out.1).mono ?_
    rintro _ w14 ⟨rfl, hb14⟩
    have B14 := Lib.hid (B13.out.trans (hb14.mono B13.out.size))
    clear hb14 B13 E13
    go_wp2_with fail
    refine (clamp_any a b c _).mono ?_
    rintro _ w15 ⟨rfl, rfl⟩
    rw [HCl.out]
    go_wp2_with fail
    go_ret
    exact ⟨rfl, B14.out⟩

theorem sums_any (a b c S : Int) (x : Option Addr) (len cap : Nat) (w : World) (h : len ≤ 200) (ha : Am a) (hb : Am b) (hT : Told w x len cap S) :
    Calls Try.prog 3 #[.int .i64 a, .int .i64 b, .int .i64 c, .slice x len cap] w fun e w' => e = .returned (.bool true) ∧ Below w.heap.size w w' := by
  refine sums_core a b c S x len cap w h ha hb hT ?_
  by_cases h1 : a < b
  · exact .inl ⟨by simp; omega, by unfold clampV; rw [if_pos h1]⟩
  · by_cases h2 : c < a
    · exact .inr (.inl ⟨by simp; omega, by simp; omega, by unfold clampV; rw [if_neg h1, if_pos h2]⟩)
    · exact .inr (.inr ⟨by simp; omega, by simp; omega, by unfold clampV; rw [if_neg h1, if_neg h2]⟩)
end Go.Proofs.Ytpcfobfmccedbaa
