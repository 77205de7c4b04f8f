/- Contracts: Fit, of what fits. -/
import Derived.Test.YtiaocahcdbikhaaX
namespace Go.Proofs.Ytiaocahcdbikhaa
open Go.RowKit

/-- what holds at the loop's head of Fit: the digits from k on are told -/
theorem fit_bd {l : List Int} {s : Int} (h : DigOk l) (hs : s = 1 ∨ s = -1) (hv : -9223372036854775808 ≤ s * lval l ∧ s * lval l ≤ 9223372036854775807) (j : Nat) :
    -9223372036854775 ≤ s * lval (l.drop (j + 1)) ∧ s * lval (l.drop (j + 1)) ≤ 9223372036854775 ∧ -9223372036854775808 ≤ 1000 * (s * lval (l.drop (j + 1))) ∧ 1000 * (s * lval (l.drop (j + 1))) ≤ 9223372036854775807 ∧
    -9223372036854775808 ≤ 1000 * (s * lval (l.drop (j + 1))) + s * dg l j ∧ 1000 * (s * lval (l.drop (j + 1))) + s * dg l j ≤ 9223372036854775807 ∧ 1000 * (s * lval (l.drop (j + 1))) + s * dg l j = s * lval (l.drop j) := by
  have h1 := lval_drop l j
  have h2 := dg_ok h j
  have h3 := lval_drop_le h (j + 1)
  have h4 := lval_drop_le h j
  rcases hs with rfl | rfl <;> omega

set_option maxRecDepth 100000 in
set_option maxHeartbeats 800000 in
theorem fit_in (s n q r : Int) (a : Option Addr) (len cap : Nat) (l : List Int) (w : World) (h : Ex w s a len cap n) (hn : Small n) (hq : (n - 9223372036854775807).sign = q) (hr : (n - -9223372036854775808).sign = r) (hq0 : q ≤ 0) (hr0 : 0 ≤ r)
    (hd : Dg w a cap l) (hl : l.length = len) (ho : DigOk l) (hs : s = 1 ∨ s = -1) (hv : n = s * lval l) (hv1 : -9223372036854775808 ≤ n) (hv2 : n ≤ 9223372036854775807) :
    Calls Try.prog 19 #[.agg #[.int .i64 s, .slice a len cap]] w fun e w' => e = .returned (.tuple #[.int .i64 n, .int .i64 0]) ∧ Below w.heap.size w w' := by
  have hlen := ex_len h hn
  have HE := Lib.hid h; have HN := Lib.hid hn; have HQ := Lib.hid hq; have HR := Lib.hid hr; have HD := Lib.hid hd; have HL := Lib.hid hl; have HO := Lib.hid ho; have HS := Lib.hid hs; have HV := Lib.hid hv
  have HF := Lib.hid (fhead_start w (.int .i64 s) (.slice a len cap))
  have t1 : decide (0 < q) = false := by simp; omega
  have t2 : decide (r < 0) = false := by simp; omega
  have HV1 := Lib.hid hv1; have HV2 := Lib.hid hv2
  clear h hn hq hr hd hl ho hs hv hv1 hv2
  go_enter Try.func19, Try.ntmps19
  go_wp2_with fail
  obtain ⟨W0, hW0⟩ : ∃ W0, W0 = w.alloc (.cells #[.int .i64 s, .slice a len cap] 50) := ⟨_, rfl⟩
  rw [← hW0] at HF
  rw [← hW0]
  clear hW0
  obtain ⟨_, _, c0, c1⟩ := HF.out
  go_region_held3 (fun w' => w'.cell? ⟨w.heap.size, 0, none⟩ = some (.int .i64 s) ∧ w'.cell? ⟨w.heap.size, 1, none⟩ = some (.slice a len cap))
    ((change FQ w.heap.size _ _ _; with_reducible (first | exact HF.out.drew.q | exact kF1.out.q | exact kF2.out.q | exact kF3.out.q | exact kF4.out.q)))
    (first | (go_at_call_of 21 (Value.int .i64 9223372036854775807); ((with_reducible refine (of_any 9223372036854775807 _ (by decide) (by decide)).mono ?_); rintro e w1 ⟨s1, a1, len1, cap1, rfl, hE1, hb1⟩; have kE1 := Lib.hid hE1; have kF1 := Lib.hid (HF.out.drew.up' hb1); clear hE1 hb1)) | (go_at_call 21; (refine (of_any (-9223372036854775808) _ (by decide) (by decide)).mono ?_; rintro e w3 ⟨s3, a3, len3, cap3, rfl, hE3, hb3⟩; have kE3 := Lib.hid hE3; have kF3 := Lib.hid (kF2.out.up' hb3); clear hE3 hb3)) | (go_at_call 31; ((with_reducible refine (cmp_ex s s1 n 9223372036854775807 a a1 len len1 cap cap1 _ (HE.out.below kF1.out.b) kE1.out HN.out (small64 (by decide) (by decide))).mono ?_); rintro e w2 ⟨he2, hb2⟩; rw [HQ.out] at he2; subst he2; have kF2 := Lib.hid (kF1.out.up' hb2); clear hb2)) | (go_at_call 31; ((with_reducible refine (cmp_ex s s3 n (-9223372036854775808) a a3 len len3 cap cap3 _ (HE.out.below kF3.out.b) kE3.out HN.out (small64 (by decide) (by decide))).mono ?_); rintro e w4 ⟨he4, hb4⟩; rw [HR.out] at he4; subst he4; have kF4 := Lib.hid (kF3.out.up' hb4); clear hb4)))
  clear c0 c1
  have HF4 := kF4
  clear kF1 kF2 kF3 kF4 kE1 kE3
  obtain ⟨_, _, c0, c1⟩ := HF4.out
  go_wp2_with fail
  clear c0 c1
  go_loopw [4, 5] (fun v i W => ∃ k : Int, -1 ≤ k ∧ k < len ∧ i = .int .i64 k ∧ v = .int .i64 (s * lval (l.drop (k + 1).toNat)) ∧ FHead w W (.int .i64 s) (.slice a len cap)) (fun _ i _ => (intOf i + 1).toNat)
  case atStart => exact ⟨(len : Int) - 1, by omega, by omega, rfl, by have := HL.out; rw [show ((len : Int) - 1 + 1).toNat = l.length by omega, List.drop_length]; simp [lval], HF4.out⟩
  case round =>
    obtain ⟨k, hk, hk2, rfl, rfl, hF⟩ := hrel
    have HFr := Lib.hid hF
    obtain ⟨_, _, c0, c1⟩ := hF
    by_cases hz : 0 ≤ k
    · obtain ⟨j, rfl⟩ := Int.eq_ofNat_of_zero_le hz
      have HB := Lib.hid (fit_bd HO.out HS.out (by rw [← HV.out]; exact ⟨HV1.out, HV2.out⟩) j)
      obtain ⟨b1, b2, b3, b4, b5, b6, b7⟩ := HB.out
      have HB7 := Lib.hid b7
      rw [show ((j : Int) + 1).toNat = j + 1 by omega]
      obtain ⟨g, rfl, hcell⟩ : ∃ g, a = some ⟨g, 0, none⟩ ∧ wr.cell? ⟨g, j, none⟩ = some (.int .i64 (dg l j)) := by
        rcases HD.out.below HFr.out.1 with ⟨q1, q2⟩ | ⟨g, q1, _, _, q4⟩
        · have := HL.out; rw [q2] at this; simp at this; omega
        · exact ⟨g, q1, q4 j (by have := HL.out; omega)⟩
      have hj0 : (0 : Int) ≤ (j : Int) := by omega
      have hdj := dg_ok HO.out j
      obtain ⟨d1, d2⟩ := hdj
      clear b7 hz HB
      generalize lval (l.drop (j + 1)) = V at *
      generalize dg l j = d at *
      generalize hX : s * V = X at *
      have HX := Lib.hid hX; clear hX
      rcases HS.out with rfl | rfl
      · have b5' : -9223372036854775808 ≤ 1000 * X + d := by omega
        have b6' : 1000 * X + d ≤ 9223372036854775807 := by omega
        clear b5 b6
        have HB8 : Hid (1000 * X + d = 1 * lval (l.drop ((j : Int) - 1 + 1).toNat)) := by
          show _ = _
          rw [show ((j : Int) - 1 + 1).toNat = j by omega, ← HB7.out]; omega
        go_wp2_with fail
        go_quiet (fail)
        go_wp2_with fail
        go_roundw
        case rel => exact ⟨(j : Int) - 1, by omega, by omega, rfl, by rw [← HB8.out], HFr.out.drewN _⟩
        case measure => simp [intOf]
      · have b5' : -9223372036854775808 ≤ 1000 * X + -d := by omega
        have b6' : 1000 * X + -d ≤ 9223372036854775807 := by omega
        clear b5 b6
        have HB8 : Hid (1000 * X + -d = -1 * lval (l.drop ((j : Int) - 1 + 1).toNat)) := by
          show _ = _
          rw [show ((j : Int) - 1 + 1).toNat = j by omega, ← HB7.out]; omega
        go_wp2_with fail
        go_quiet (fail)
        go_wp2_with fail
        go_roundw
        case rel => exact ⟨(j : Int) - 1, by omega, by omega, rfl, by rw [← HB8.out], HFr.out.drewN _⟩
        case measure => simp [intOf]
    · have hke : k = -1 := by omega
      subst hke
      have HVN : Hid (s * lval (l.drop ((-1 : Int) + 1).toNat) = n) := by show _ = _; rw [HV.out]; rfl
      rw [HVN.out]
      go_wp2_with fail
      go_ret2
      exact ⟨rfl, HFr.out.b⟩
end Go.Proofs.Ytiaocahcdbikhaa
