/- The reference: Again. -/
import Derived.Laws.AppendOwn
import Derived.Test.YtklaonoekmhakaaGreatAlJ
import Derived.Test.YtklaonoekmhakaaGreatBoMath
import Derived.Test.YtklaonoekmhakaaGreatBoD
import Derived.Test.YtklaonoekmhakaaGreatBoA
import Derived.Test.YtklaonoekmhakaaGreatOv
namespace Go.Proofs.YtklaonoekmhakaaGreat
open Go.RowKit

def RAgPost (w : World) (total : Int) (d : Nat → Int) (n : Nat) (f : Nat → Int) (k : Nat) (e : Ending) (w' : World) : Prop := RListed w (againE total d n f k) k (againV total d n f k) e w'
set_option maxRecDepth 100000 in
set_option maxHeartbeats 8000000 in
theorem ragain_any (total : Int) (d f : Nat → Int) (a c : Option Addr) (n k capa capc : Nat) (w : World) (hd : Amounts d) (hf : Amounts f) (ht : Am total) (hn : n ≤ 900) (hA : Arg w a n d) (hC : Arg w c k f) :
    Calls Tryz.prog 39 #[.int .i64 total, .slice a n capa, .slice c k capc] w (RAgPost w total d n f k) := by
  by_cases hnk : n ≠ k
  · have HE : Hid (againE total d n f k = 1) := by show _ = _; unfold againE; rw [if_pos hnk]
    have z : ((n : Int) != (k : Int)) = true := by simp; omega
    clear hd hf ht hA hC hnk
    go_enter Tryz.func39, Tryz.ntmps39
    go_wp2_with fail
    go_ret2
    exact rlisted_err HE.out (by decide) (Below.refl _ _) rfl
  · obtain rfl : n = k := Classical.byContradiction hnk
    have hbd := sumN_bd hd n
    have hs1 := sumN_small hd (k := n) (by omega)
    have hs2 := small64 ht.1 ht.2
    have hs3 : Small (total - sumN d n) := by unfold Am at ht; exact small126 ⟨by omega, by omega⟩
    have HTot := Lib.hid (fun (W : World) (q : Below w.heap.size w W) => total_arg d a n capa W hd (by omega) (hA.up13 q))
    have HO := Lib.hid (fun (W : World) (q : Below w.heap.size w W) => rout_any (leaveV total d n) f c n capc W hf (leave_am total d n).1 (leave_am total d n).2 (hC.up13 q))
    have HA := Lib.hid hA
    have HD := Lib.hid hd
    have HV : outE (leaveV total d n) f n = 0 → Hid (∀ t, t < n → Am (outV (leaveV total d n) f n t)) := fun q t ht => (out_facts (leave_am total d n).1 (leave_am total d n).2 q ht).2.2.2
    have HE1 : Hid (leaveE total d n ≠ 0 → againE total d n f n = 3) := fun q => by unfold againE; rw [if_neg hnk, if_pos q]
    have HE2 : Hid (leaveE total d n = 0 → outE (leaveV total d n) f n ≠ 0 → againE total d n f n = outE (leaveV total d n) f n) := fun q q2 => by unfold againE; rw [if_neg hnk, if_neg (by omega), if_pos q2]
    have HE3 : Hid (leaveE total d n = 0 → outE (leaveV total d n) f n = 0 → againE total d n f n = if overB d (outV (leaveV total d n) f n) n then 3 else 0) := fun q q2 => by unfold againE; rw [if_neg hnk, if_neg (by omega), if_neg (by omega)]
    have hlv : tellE (sumN d n) = 0 → leaveV total d n = tellV (total - sumN d n) ∧ leaveE total d n = tellE (total - sumN d n) := fun q => by unfold leaveV leaveE; rw [if_pos q, if_pos q]; exact ⟨rfl, rfl⟩
    have hlv2 : tellE (sumN d n) ≠ 0 → leaveE total d n = 3 := fun q => by unfold leaveE; rw [if_neg q]
    have HF1 := Lib.hid (fun (s : Int) (a : Option Addr) (len cap : Nat) (W : World) (h : Ex W s a len cap (sumN d n)) => fit_any s (sumN d n) a len cap W h hs1)
    have HF2 := Lib.hid (fun (s : Int) (a : Option Addr) (len cap : Nat) (W : World) (h : Ex W s a len cap (total - sumN d n)) => fit_any s (total - sumN d n) a len cap W h hs3)
    have HOf := Lib.hid (fun W => of_any total W ht.1 ht.2)
    obtain ⟨L, hL⟩ : ∃ L, L = leaveV total d n := ⟨_, rfl⟩
    obtain ⟨LE, hLE⟩ : ∃ LE, LE = leaveE total d n := ⟨_, rfl⟩
    obtain ⟨S, hS⟩ : ∃ S, S = sumN d n := ⟨_, rfl⟩
    rw [← hS] at HTot HF1 HF2 hlv hlv2 hs1 hs3
    obtain ⟨V1, hV1⟩ : ∃ V1, V1 = tellV S := ⟨_, rfl⟩
    obtain ⟨G1, hG1⟩ : ∃ G1, G1 = tellE S := ⟨_, rfl⟩
    obtain ⟨V2, hV2⟩ : ∃ V2, V2 = tellV (total - S) := ⟨_, rfl⟩
    obtain ⟨G2, hG2⟩ : ∃ G2, G2 = tellE (total - S) := ⟨_, rfl⟩
    rw [← hV1, ← hG1] at HF1
    rw [← hV2, ← hG2] at HF2
    rw [← hG1, ← hV2, ← hG2, ← hL, ← hLE] at hlv
    rw [← hG1, ← hLE] at hlv2
    rw [← hLE] at HE1 HE2 HE3
    rw [← hL] at HE2 HE3 HO HV
    have HVA : Hid (againV total d n f n = fun t => d t + outV L f n t) := by show _ = _; funext t; unfold againV; rw [hL]
    have HSm := Lib.hid (And.intro hs1 (And.intro hs2 hs3))
    have HLv := Lib.hid (And.intro hlv hlv2)
    clear hbd hs1 hs2 hs3 hS hV1 hG1 hV2 hG2 hlv hlv2 hL hLE hd hf ht hA hC hnk
    go_enter Tryz.func39, Tryz.ntmps39
    go_wp2_with fail
    refine (HTot.out _ (Below.refl _ _)).mono ?_
    rintro e w1 ⟨s1, x1, n1, p1, rfl, hE1, hb⟩
    have HB1 := Lib.hid hb
    have KE1 := Lib.hid hE1
    clear hb hE1
    go_wp2_with fail
    refine (HF1.out s1 x1 n1 p1 _ KE1.out).mono ?_
    rintro e w2 ⟨rfl, hb⟩
    have HB2 := Lib.hid (up2 HB1.out hb)
    clear hb KE1 HB1
    go_wp2_with fail
    refine (HOf.out _).mono ?_
    rintro e w3 ⟨s3, x3, n3, p3, rfl, hE3, hb⟩
    have HB3 := Lib.hid (up2 HB2.out hb)
    have KE3 := Lib.hid hE3
    clear hb hE3 HB2
    go_wp2_with fail
    refine (HTot.out _ HB3.out).mono ?_
    rintro e w4 ⟨s4, x4, n4, p4, rfl, hE4, hb⟩
    have HB4 := Lib.hid (up2 HB3.out hb)
    have KE3 := Lib.hid (KE3.out.below hb)
    have KE4 := Lib.hid hE4
    clear hb hE4 HB3 HTot
    go_wp2_with fail
    refine (less_ex s3 s4 total S x3 x4 n3 n4 p3 p4 _ KE3.out KE4.out HSm.out.2.1 HSm.out.1).mono ?_
    rintro e w5 ⟨s5, x5, n5, p5, rfl, hE5, hb⟩
    have HB5 := Lib.hid (up2 HB4.out hb)
    have KE5 := Lib.hid hE5
    clear hb hE5 KE3 KE4 HB4
    go_wp2_with fail
    refine (HF2.out s5 x5 n5 p5 _ KE5.out).mono ?_
    rintro e w6 ⟨rfl, hb⟩
    have HB6 := Lib.hid (up2 HB5.out hb)
    clear hb KE5 HB5 HF1 HF2 HOf HSm
    by_cases q1 : G1 = 0
    · by_cases q2 : G2 = 0
      · obtain ⟨l1, l2⟩ := HLv.out.1 q1
        subst q1 q2 l2
        rw [← l1]
        clear l1 HLv HE1
        go_wp2_with fail
        refine (HO.out _ HB6.out).mono ?_
        rintro e w7 ⟨hb, h⟩
        have HB7 := Lib.hid (up2 HB6.out hb)
        have HS6 : Hid (w.heap.size ≤ w6.heap.size) := HB6.out.size
        clear hb HB6 HO
        rcases h with ⟨he, rfl⟩ | ⟨he, p, cp, rfl, hp, hi⟩
        · have HX := Lib.hid (HE2.out (by trivial) he)
          have HY := Lib.hid he
          clear HE3 HE2 HV HVA
          obtain ⟨E, hE⟩ : ∃ E, E = outE L f n := ⟨_, rfl⟩
          rw [← hE] at HX HY ⊢
          have z : (E != 0) = true := by have := HY.out; simp [this]
          clear hE he
          go_wp2_with fail
          go_ret2
          exact rlisted_err HX.out HY.out HB7.out rfl
        · have HXX := Lib.hid (HE3.out (by trivial) he)
          have HVV := HV he
          obtain ⟨v, hv⟩ : ∃ v, v = outV L f n := ⟨_, rfl⟩
          rw [← hv] at HXX HVV HVA hi
          have HI := Lib.hid hi
          have HP : Hid (w.heap.size ≤ p) := by have := HS6.out; show _ ≤ _; omega
          clear hv hi hp HS6 HV HE2 HE3 he
          go_wp2_with fail
          go_loopw [14] (fun vi wr => ∃ i : Nat, i ≤ n ∧ vi = .int .i64 i ∧ Below w.heap.size w wr ∧ Ints wr p n (fun t => if t < i then d t + v t else v t) ∧ Hid (overB d v i = false)) (fun vi _ => n - (intOf vi).toNat)
          case atStart => exact ⟨0, Nat.zero_le _, rfl, HB7.out, by simpa using HI.out, rfl⟩
          case round =>
            clear HB7 HI
            obtain ⟨i, hi, rfl, hB, hI, HOv⟩ := hrel
            have HB := Lib.hid hB
            have HI := Lib.hid hI
            clear hB hI
            by_cases hlt : i < n
            · obtain ⟨b, off, rfl, hr⟩ := HA.out (by omega)
              have c1 := kcell HB.out (hr i hlt)
              have c3 := (HI.out i hlt).1
              simp only [if_neg (show ¬ i < i by omega)] at c3
              have hor := tellE_or (d i + v i)
              have HOv3 : Hid (tellE (d i + v i) = 3 → overB d v n = true) := fun q => overB_yes hlt q
              have HOv0 : Hid (tellE (d i + v i) = 0 → overB d v (i + 1) = false) := fun q => by
                show (overB d v i || decide (tellE (d i + v i) = 3)) = false
                rw [HOv.out, q]; rfl
              have HFt : Hid ((fun t => if t < i + 1 then d t + v t else v t) = fun t => if t = i then d i + v i else if t < i then d t + v t else v t) := by
                show _ = _
                funext t
                by_cases e : t = i
                · subst e; rw [if_pos (by omega), if_pos rfl]
                · rw [if_neg e]
                  by_cases e2 : t < i
                  · rw [if_pos e2, if_pos (by omega)]
                  · rw [if_neg e2, if_neg (by omega)]
              obtain ⟨f1, f2⟩ := HD.out i
              obtain ⟨g1, g2⟩ := HVV.out i hlt
              obtain ⟨x, hx⟩ : ∃ x, x = d i := ⟨_, rfl⟩
              obtain ⟨y, hy⟩ : ∃ y, y = v i := ⟨_, rfl⟩
              rw [← hx] at c1 hor HOv3 HOv0 HFt f1 f2
              rw [← hy] at c3 hor HOv3 HOv0 HFt g1 g2
              have HFit : Hid (∀ (s : Int) (a : Option Addr) (len cap : Nat) (W : World), Ex W s a len cap (y + x) → Calls Tryz.prog 75 #[.agg #[.int .i64 s, .slice a len cap]] W fun e w' => e = .returned (.tuple #[.int .i64 (tellV (x + y)), .int .i64 (tellE (x + y))]) ∧ Below W.heap.size W w') := fun s a len cap W h => by
                have q := fit_any s (y + x) a len cap W h (small126 ⟨by omega, by omega⟩)
                rw [show y + x = x + y by omega] at q
                exact q
              have hi0 : (0 : Int) ≤ (i : Int) := by omega
              have hi1 : (i : Int) < (n : Int) := by omega
              have HSx : Hid (Small x ∧ Small y) := ⟨small64 f1 f2, small64 g1 g2⟩
              clear hr hx hy
              rcases hor with ⟨e1, e2, _⟩ | ⟨e1, e2, _⟩
              · rw [e1, e2] at HFit
                have HN := Lib.hid (HOv0.out e1)
                clear e1 e2 HOv0 HOv3
                go_wp2_with fail
                go_region_with (first | (go_at_call 77; ((with_reducible refine (of_any y _ g1 g2).mono ?_); rintro e' w8 ⟨s8, x8, n8, p8, rfl, hE8, hb8⟩; have kB8 := Lib.hid (up2 HB.out.drew hb8); have kI8 := Lib.hid (ints_up (ints_drew HI.out) hb8); have kE8 := Lib.hid hE8; have d1 := kcell hb8 c1; have d3 := kcell hb8 c3; clear hE8 hb8)) | (go_at_call 77; ((with_reducible refine (of_any x _ f1 f2).mono ?_); rintro e' w9 ⟨s9, x9, n9, p9, rfl, hE9, hb9⟩; have kB9 := Lib.hid (up2 kB8.out hb9); have kI9 := Lib.hid (ints_up kI8.out hb9); have kE9 := Lib.hid (kE8.out.below hb9); have kF9 := Lib.hid hE9; clear hE9 hb9)) | (go_at_call 76; ((with_reducible refine (plus_ex s8 s9 y x x8 x9 n8 n9 p8 p9 _ kE9.out kF9.out HSx.out.2 HSx.out.1).mono ?_); rintro e' w10 ⟨s10, x10, n10, p10, rfl, hE10, hb10⟩; have kB10 := Lib.hid (up2 kB9.out hb10); have kI10 := Lib.hid (ints_up kI9.out hb10); have kE10 := Lib.hid hE10; clear hE10 hb10)) | (go_at_call 75; ((with_reducible refine (HFit.out s10 x10 n10 p10 _ kE10.out).mono ?_); rintro e' w11 ⟨rfl, hb11⟩; have kB11 := Lib.hid (up2 kB10.out hb11); have kI11 := Lib.hid (ints_up kI10.out hb11); have d3 := (kI11.out i hlt).1; have d4 := (kI11.out i hlt).2; clear hb11)))
                all_goals
                  go_wp2_with fail
                  go_roundw
                  case rel => exact ⟨i + 1, by omega, by go_num, kB11.out.setCell HP.out _, by rw [HFt.out]; exact ints_set kI11.out hlt (x + y), HN.out⟩
                  case measure => simp [intOf]; omega
              · rw [e1, e2] at HFit
                have HN : Hid (againE total d n f n = 3) := by show _ = _; rw [HXX.out, HOv3.out e1]; rfl
                clear e1 e2 HOv0 HOv3 HFt
                go_wp2_with fail
                go_region_with (first | (go_at_call 77; ((with_reducible refine (of_any y _ g1 g2).mono ?_); rintro e' w8 ⟨s8, x8, n8, p8, rfl, hE8, hb8⟩; have kB8 := Lib.hid (up2 HB.out.drew hb8); have kI8 := Lib.hid (ints_up (ints_drew HI.out) hb8); have kE8 := Lib.hid hE8; have d1 := kcell hb8 c1; have d3 := kcell hb8 c3; clear hE8 hb8)) | (go_at_call 77; ((with_reducible refine (of_any x _ f1 f2).mono ?_); rintro e' w9 ⟨s9, x9, n9, p9, rfl, hE9, hb9⟩; have kB9 := Lib.hid (up2 kB8.out hb9); have kI9 := Lib.hid (ints_up kI8.out hb9); have kE9 := Lib.hid (kE8.out.below hb9); have kF9 := Lib.hid hE9; clear hE9 hb9)) | (go_at_call 76; ((with_reducible refine (plus_ex s8 s9 y x x8 x9 n8 n9 p8 p9 _ kE9.out kF9.out HSx.out.2 HSx.out.1).mono ?_); rintro e' w10 ⟨s10, x10, n10, p10, rfl, hE10, hb10⟩; have kB10 := Lib.hid (up2 kB9.out hb10); have kI10 := Lib.hid (ints_up kI9.out hb10); have kE10 := Lib.hid hE10; clear hE10 hb10)) | (go_at_call 75; ((with_reducible refine (HFit.out s10 x10 n10 p10 _ kE10.out).mono ?_); rintro e' w11 ⟨rfl, hb11⟩; have kB11 := Lib.hid (up2 kB10.out hb11); have kI11 := Lib.hid (ints_up kI10.out hb11); have d3 := (kI11.out i hlt).1; have d4 := (kI11.out i hlt).2; clear hb11)))
                all_goals
                  go_wp2_with fail
                  go_ret2
                  exact rlisted_err HN.out (by decide) kB11.out rfl
            · have hie : i = n := by omega
              subst hie
              have HN : Hid (againE total d i f i = 0) := by show _ = _; rw [HXX.out, HOv.out]; rfl
              clear hi hlt
              go_wp2_with fail
              go_ret2
              unfold RAgPost
              rw [HN.out, HVA.out]
              exact ⟨HB.out, .inr ⟨rfl, p, cp, rfl, HP.out, ints_same HI.out fun t ht => by rw [if_pos ht]⟩⟩
      · have HX : Hid (againE total d n f n = 3) := HE1.out (by rw [(HLv.out.1 q1).2]; exact q2)
        subst q1
        have z : (G2 != 0) = true := by simp [q2]
        clear q2 HLv HE1 HE2 HE3 HV HO
        go_wp2_with fail
        go_ret2
        exact rlisted_err HX.out (by decide) HB6.out rfl
    · have HX : Hid (againE total d n f n = 3) := HE1.out (by rw [HLv.out.2 q1]; decide)
      have z : (G1 != 0) = true := by simp [q1]
      clear q1 HLv HE1 HE2 HE3 HV HO
      go_wp2_with fail
      go_ret2
      exact rlisted_err HX.out (by decide) HB6.out rfl
end Go.Proofs.YtklaonoekmhakaaGreat

namespace Go.Proofs.YtklaonoekmhakaaGreat
open Go.RowKit

section
variable {S : Ct}
theorem Ct.out_tr {t : Nat} (h : ¬ t < S.n) : S.tr t = trk0 := by
  unfold Ct.tr Ct.n at *
  rw [List.getD_eq_getElem?_getD, List.getElem?_eq_none (by omega)]; rfl
theorem FineC.ear_am (h : FineC S) (day : Int) : Amounts (S.ear day) := fun t => by
  by_cases ht : t < S.n
  · have := h.ear_bd day ht
    show -9223372036854775808 ≤ _ ∧ _ ≤ (9223372036854775807 : Int)
    omega
  · have e : S.ear day t = 0 := by
      unfold Ct.ear
      rw [Ct.out_tr ht]
      show earS _ _ sp0 day = 0
      unfold earS
      show (if _ then (0 : Int) + 0 else 0 + 0 * _ / _) = 0
      split <;> simp
    rw [e]; exact ⟨by decide, by decide⟩
theorem FineC.alo_am (h : FineC S) : Amounts S.alo := fun t => by
  by_cases ht : t < S.n
  · have h1 := (h.trk ht).al0
    have h2 := (h.trk ht).al1
    show -9223372036854775808 ≤ (S.tr t).d.al ∧ (S.tr t).d.al ≤ (9223372036854775807 : Int)
    omega
  · have e : S.alo t = 0 := by unfold Ct.alo; rw [Ct.out_tr ht]; rfl
    rw [e]; exact ⟨by decide, by decide⟩
theorem FineC.wei_am (h : FineC S) (day : Int) : Amounts (S.wei day) := fun t => by
  have h1 := h.alo_am t
  unfold Ct.wei
  split
  · exact ⟨by decide, by decide⟩
  · exact h1
end
section
variable {w0 w : World}
/-- two empty rows of numbers -/
theorem owl_two {B g1 g2 : Nat} (h1 : Has w g1 2 #[]) (h2 : Has w g2 2 #[]) (hne : g1 ≠ g2) (b1 : B ≤ g1) (b2 : B ≤ g2) : OwL w B [⟨2, 1, .slice (some ⟨g1, 0, none⟩) 0 0, 0, []⟩, ⟨2, 1, .slice (some ⟨g2, 0, none⟩) 0 0, 0, []⟩] := by
  have e1 : w.ownsRow B 2 1 (.slice (some ⟨g1, 0, none⟩) 0 0) 0 [] := ⟨rfl, .inr ⟨g1, 0, #[], rfl, b1, h1, Nat.le_refl _, by unfold maxLen; omega, rfl, rfl⟩⟩
  have e2 : w.ownsRow B 2 1 (.slice (some ⟨g2, 0, none⟩) 0 0) 0 [] := ⟨rfl, .inr ⟨g2, 0, #[], rfl, b2, h2, Nat.le_refl _, by unfold maxLen; omega, rfl, rfl⟩⟩
  refine ⟨fun i x hx => ?_, fun i j x y hij hx hy => ?_⟩
  · match i, hx with
    | 0, hx => obtain rfl := Option.some.inj hx; exact e1
    | 1, hx => obtain rfl := Option.some.inj hx; exact e2
    | i + 2, hx => simp at hx
  · match i, j, hx, hy with
    | 0, 0, _, _ => exact absurd rfl hij
    | 1, 1, _, _ => exact absurd rfl hij
    | 0, 1, hx, hy =>
      obtain rfl := Option.some.inj hx
      obtain rfl := Option.some.inj hy
      exact .inr (by simp [Value.ownBlock]; exact hne)
    | 1, 0, hx, hy =>
      obtain rfl := Option.some.inj hx
      obtain rfl := Option.some.inj hy
      exact .inr (by simp [Value.ownBlock]; exact fun e => hne e.symm)
    | i + 2, _, hx, _ => simp at hx
    | _, j + 2, _, hy => simp at hy
theorem owl_one {B g1 : Nat} (h1 : Has w g1 2 #[]) (b1 : B ≤ g1) : OwL w B [⟨2, 1, .slice (some ⟨g1, 0, none⟩) 0 0, 0, []⟩] := by
  have e1 : w.ownsRow B 2 1 (.slice (some ⟨g1, 0, none⟩) 0 0) 0 [] := ⟨rfl, .inr ⟨g1, 0, #[], rfl, b1, h1, Nat.le_refl _, by unfold maxLen; omega, rfl, rfl⟩⟩
  refine ⟨fun i x hx => ?_, fun i j x y hij hx hy => ?_⟩
  · match i, hx with
    | 0, hx => obtain rfl := Option.some.inj hx; exact e1
    | i + 1, hx => simp at hx
  · match i, j, hx, hy with
    | 0, 0, _, _ => exact absurd rfl hij
    | i + 1, _, hx, _ => simp at hx
    | _, j + 1, _, hy => simp at hy
theorem infoI64c : (Tryz.prog.info? 2).map (fun i => (i.zero, i.size, i.bytes)) = some (some (.int .i64 0), 1, 8) := by kernel_rfl
/-- a number more in one of such rows -/
theorem owl_num {B : Nat} {L : List Ob} (h : OwL w B L) {i k : Nat} {v : Value} {xs : List Value} (hx : L[i]? = some ⟨2, 1, v, k, xs⟩) (hk : k ≤ 1000) {y : Nat} {z : Int} (hy : Has w y 2 #[.int .i64 z]) (hb : Below w0.heap.size w0 w) (hB0 : w0.heap.size ≤ B) (hB : B ≤ w.heap.size) (ty : TypeId) :
    ∃ a' c' w', (Builtin.append_ #[64, 64] ty #[v, .slice (some ⟨y, 0, none⟩) 1 1]).run Tryz.prog w = .ok (.slice a' (k + 1) c') w' ∧ OwL w' B (L.set i ⟨2, 1, .slice a' (k + 1) c', k + 1, xs ++ [.int .i64 z]⟩) ∧ Below w0.heap.size w0 w' ∧ B ≤ w'.heap.size := by
  obtain ⟨v', w', hr, ho, hb', hs, a, c, e⟩ := h.app (P := Tryz.prog) hx (t := 64) (ty := ty) Tryz.underlying64 infoI64c rfl (show 0 < 1 by decide) (by decide) [.int .i64 z] rfl (ad := ⟨y, 0, none⟩)
    (fun j u hu => by
      rw [addr_off, Nat.zero_add, hy.cell]
      exact (List.getElem?_toArray (xs := [Value.int .i64 z]) (i := j)).trans hu)
    (fun u hu => by simp at hu; rw [hu]; rfl) (by show k ≤ 1000000; omega) hb hB0 hB
  subst e
  exact ⟨a, c, w', hr, ho, hb', Nat.le_trans hB hs⟩
end
end Go.Proofs.YtklaonoekmhakaaGreat

namespace Go.Proofs.YtklaonoekmhakaaGreat
open Go.RowKit

/-- of the blocks that were there, none but these has turned -/
structure Kp (O : Nat → Prop) (w w' : World) : Prop where
  os : w'.os = w.os
  tape : w'.tape = w.tape
  output : w'.output = w.output
  size : w.heap.size ≤ w'.heap.size
  block : ∀ b, b < w.heap.size → ¬ O b → w'.heap[b]? = w.heap[b]?
theorem Kp.of {O : Nat → Prop} {w w' : World} (h : Below w.heap.size w w') : Kp O w w' := ⟨h.os, h.tape, h.output, h.size, fun b hb _ => h.block b hb⟩
theorem Kp.refl (O : Nat → Prop) (w : World) : Kp O w w := ⟨rfl, rfl, rfl, Nat.le_refl _, fun _ _ _ => rfl⟩
theorem Kp.trans {O O' : Nat → Prop} {w w1 w2 : World} (h : Kp O w w1) (k : Kp O' w1 w2) (hs : ∀ b, O' b → O b ∨ w.heap.size ≤ b) : Kp O w w2 :=
  ⟨k.os.trans h.os, k.tape.trans h.tape, k.output.trans h.output, Nat.le_trans h.size k.size, fun b hb hn =>
    (k.block b (Nat.lt_of_lt_of_le hb h.size) (fun q => (hs b q).elim hn (fun z => by omega))).trans (h.block b hb hn)⟩
theorem Kp.below {O : Nat → Prop} {w w' : World} {B : Nat} (h : Kp O w w') (hB : B ≤ w.heap.size) (hO : ∀ b, O b → B ≤ b) : Below B w w' :=
  ⟨h.os, h.tape, h.output, h.size, fun b hb => h.block b (by omega) (fun q => by have := hO b q; omega)⟩
theorem Kp.grown {O : Nat → Prop} {w w' : World} {row : Option Nat} (h : w.grownBy w' row) (hr : ∀ j, row = some j → O j ∨ w.heap.size ≤ j) : Kp O w w' :=
  ⟨h.os, h.tape, h.output, h.size, fun b hb hn => h.block b hb (fun e => (hr b e.symm).elim hn (fun z => by omega))⟩
theorem Kp.set {O : Nat → Prop} (w : World) (a : Addr) (v : Value) (hO : O a.block) : Kp O w (w.setCell a v) :=
  ⟨rfl, rfl, rfl, by simp [World.setCell], fun b _ hn => Below.heap_setCell w a v b (fun e => hn (e ▸ hO))⟩
/-- these, and all new ones -/
abbrev Nw (O : Nat → Prop) (w w' : World) : Nat → Prop := fun b => O b ∨ (w.heap.size ≤ b ∧ b < w'.heap.size)
theorem Kp.has {O : Nat → Prop} {w w' : World} (h : Kp O w w') {g T : Nat} {cs : Array Value} (hh : Has w g T cs) (hn : ¬ O g) : Has w' g T cs :=
  (h.block g hh.lt hn).trans hh
end Go.Proofs.YtklaonoekmhakaaGreat

namespace Go.Proofs.YtklaonoekmhakaaGreat
open Go.RowKit

def Aw16 : Prop := ∀ W : World, Calls Tryz.prog 8 #[] W fun e w' => e = .returned (.bool true) ∧ Below W.heap.size W w'
def AmP (l : List Op4) : Prop := ∀ x ∈ l, Am x.n
/-- Onward, and which blocks turn -/
def CfO (Cf : World → World → Nat → Ct → Prop) : Prop :=
  ∀ {w0 w w2 : World} {c : Nat} {S : Ct} (dy n : Int), Cf w0 w c S → Below w.heap.size w w2 → Am n → Calls Tryz.prog 28 #[.pointer (some ⟨c, 0, none⟩), .int .i64 dy, .int .i64 n] w2 fun e w' => e = .returned (.int .i64 (S.onwE dy n)) ∧ Cf w0 w' c (S.onwS dy n) ∧ Kp (fun g => w0.heap.size ≤ g ∧ g < w.heap.size) w2 w'
end Go.Proofs.YtklaonoekmhakaaGreat
