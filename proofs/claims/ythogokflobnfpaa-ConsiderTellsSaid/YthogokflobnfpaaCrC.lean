/- The reference's Mean. -/
import Derived.Test.YthogokflobnfpaaCrB
import Derived.Test.YthogokflobnfpaaBy
import Derived.Test.YthogokflobnfpaaOx
namespace Go.Proofs.Ythogokflobnfpaa
open Go.RowKit

def amch (x : Mb) : Int := x.am * x.ch
theorem amch_bd {x : Mb} (h : Am x.am) (h0 : 0 ≤ x.ch) (h1 : x.ch ≤ 10000) : -92233720368547758080000 ≤ amch x ∧ amch x ≤ 92233720368547758080000 := by
  unfold Am at h
  unfold amch
  have a1 : x.am * x.ch ≤ 9223372036854775807 * x.ch := Int.mul_le_mul_of_nonneg_right h.2 h0
  have a2 : -9223372036854775808 * x.ch ≤ x.am * x.ch := Int.mul_le_mul_of_nonneg_right h.1 h0
  omega
theorem mea_bd {l : List Mb} (ha : ∀ x ∈ l, mbG x) (hc : ∀ x ∈ l, 0 ≤ x.ch ∧ x.ch ≤ 10000) (hn : l.length ≤ 32) (k : Nat) : -2951479051793528258560000 ≤ sumM amch (l.take k) ∧ sumM amch (l.take k) ≤ 2951479051793528258560000 := by
  have h1 := sumM_bd (g := amch) (B := 92233720368547758080000) (l := l.take k) (fun x hx => by
    have := amch_bd (take_all ha k x hx).1 (take_all hc k x hx).1 (take_all hc k x hx).2
    omega)
  have h2 : ((l.take k).length : Int) ≤ 32 := by rw [List.length_take]; omega
  omega

/-- the cells of a sum's box -/
def SmC (b : Nat) (s : Int) (a : Option Addr) (len cap : Nat) (W : World) : Prop := W.cell? ⟨b, 0, none⟩ = some (.int .i64 s) ∧ W.cell? ⟨b, 1, none⟩ = some (.slice a len cap)
theorem SmX.sc {W : World} {b : Nat} {v s : Int} {a : Option Addr} {len cap : Nat} (h : SmX W b v s a len cap) : SmC b s a len cap W := ⟨h.has.cell 0, h.has.cell 1⟩
/-- the cells of one that may come -/
def MbX (b o : Nat) (A C : Int) (W : World) : Prop := W.cell? ⟨b, o, none⟩ = some (.int .i64 A) ∧ W.cell? ⟨b, o + 1, none⟩ = some (.int .i64 C)
theorem MbX.up {b o : Nat} {A C : Int} {W W' : World} (h : MbX b o A C W) (q : Below W.heap.size W W') : MbX b o A C W' := ⟨kcell q h.1, kcell q h.2⟩
theorem MbX.drew {b o : Nat} {A C : Int} {W : World} (h : MbX b o A C W) : MbX b o A C W.drew := h.up (Below.refl _ _).drew
set_option maxRecDepth 100000 in
set_option maxHeartbeats 16000000 in
theorem qmea_any (f : Int) (a : Option Addr) (n cap : Nat) (l : List Mb) (w : World) (hn : l.length = n) (hl : MbA w a l) (hf : Am f) (ha : ∀ x ∈ l, mbG x) :
    Calls Try.prog 11 #[.int .i64 f, .slice a n cap] w (CopR w (meaV f l) (meaE f l)) := by
  have HW := Lib.hid (qwrong_any f 0 a n cap l w hn hl)
  unfold CopR
  obtain ⟨E, hE⟩ : ∃ E, E = wrE f l 0 := ⟨_, rfl⟩
  by_cases q : E = 0
  · have hw : wrE f l 0 = 0 := by rw [← hE]; exact q
    obtain ⟨hlen, _, hb0, hb1, hch⟩ := wrE_zero hw
    have hce : meaE f l = pricE (meaS f l) := by unfold meaE; rw [if_neg (by rw [hw]; decide)]
    have hcv : meaV f l = pricV (meaS f l) := by unfold meaV pricV; rw [hce]
    rw [hw] at HW
    rw [hce, hcv]
    have hbd := mea_bd ha hch hlen
    rw [hn] at hlen
    have HSm := Lib.hid (fun k => small126 (x := sumM amch (l.take k)) (by have := hbd k; omega))
    have e : sumM amch (l.take n) = sumM (fun x => x.am * x.ch) l := by rw [← hn, List.take_length]; rfl
    obtain ⟨D, hD⟩ : ∃ D, D = sumM amch (l.take n) / 10000 := ⟨_, rfl⟩
    have hT : meaS f l = f + D := by rw [hD, e]; rfl
    have hbn := hbd n
    have HLim := Lib.hid (show Lim2 (sumM amch (l.take n)) by unfold Lim2; omega)
    have hSD : Small D := small126 (by omega)
    have hST : Small (f + D) := small126 (by unfold Am at hf; omega)
    rw [hT]
    obtain ⟨PE, hPE⟩ : ∃ PE, PE = pricE (f + D) := ⟨_, rfl⟩
    obtain ⟨PV, hPV⟩ : ∃ PV, PV = pricV (f + D) := ⟨_, rfl⟩
    rw [← hPE, ← hPV]
    have HPr : Hid (∀ (s : Int) (a : Option Addr) (len cap : Nat) (W : World), Ex W s a len cap (f + D) → Calls Try.prog 17 #[.agg #[.int .i64 s, .slice a len cap]] W (CopR W PV PE)) := fun s a len cap W h => by
      rw [hPE, hPV]
      exact qpr_any s (f + D) a len cap W h hST
    unfold CopR at HPr
    have HOf := Lib.hid (fun W => of_any f W hf.1 hf.2)
    have HSf := Lib.hid (small64 hf.1 hf.2)
    have HOW := Lib.hid (fun W => of_any 10000 W (by decide) (by decide))
    have HSD := Lib.hid hSD
    have HD := Lib.hid hD
    have HL := Lib.hid hl
    have HN := Lib.hid hn
    have HAm := Lib.hid ha
    have HCh := Lib.hid hch
    clear hl hf ha hn hE q hw hce hcv hPE hPV hch hbd hbn hD hT hST hSD e hb0 hb1
    go_enter Try.func11, Try.ntmps11
    go_wp2_with fail
    refine HW.out.mono ?_
    rintro e w1 ⟨rfl, rfl⟩
    have HT := Lib.hid (SmX.start w)
    go_wp2_with fail
    obtain ⟨W0, hW0⟩ : ∃ W0, W0 = w.alloc (.cells #[.int .i64 0, .slice none 0 0] 44) := ⟨_, rfl⟩
    have HB0 : Hid (Below w.heap.size w W0) := by rw [hW0]; exact boxed _ _
    rw [← hW0] at HT
    rw [← hW0]
    clear hW0
    go_loopw [8] (fun i wr => ∃ k : Nat, k ≤ n ∧ i = .int .i64 (k : Int) ∧ (∃ s a2 l2 c2, SmX wr w.heap.size (sumM amch (l.take k)) s a2 l2 c2) ∧ Below w.heap.size w wr) (fun i _ => n - (intOf i).toNat)
    case atStart => exact ⟨0, Nat.zero_le _, rfl, ⟨_, _, _, _, HT.out⟩, HB0.out⟩
    case round =>
      obtain ⟨k, hk, rfl, ⟨s, a2, l2, c2, hT⟩, hb⟩ := hrel
      have HS := Lib.hid hT
      have HB := Lib.hid hb
      clear hT hb
      obtain ⟨c0, c1, e0, e1⟩ := HS.out.row
      by_cases hlt : k < n
      · obtain ⟨x, hx⟩ : ∃ x, l[k]? = some x := ⟨l[k]'(by rw [HN.out]; exact hlt), List.getElem?_eq_getElem _⟩
        obtain ⟨bb, o, hab, z0, z1⟩ := mb_at (HL.out.up HB.out) hx
        subst hab
        have hmem := List.mem_of_getElem? hx
        obtain ⟨hA1, hC1⟩ := HAm.out x hmem
        have hsum := sumM_take (g := amch) hx
        have hk0 : (0 : Int) ≤ (k : Int) := by omega
        have hk1 : (k : Int) < (n : Int) := by omega
        have hw1 : IntKind.i64.wrap ((k : Int) + 1) = (k : Int) + 1 := IntWalk.i64_in _ (by omega)
        obtain ⟨A, hA⟩ : ∃ A, A = x.am := ⟨_, rfl⟩
        obtain ⟨C, hC⟩ : ∃ C, C = x.ch := ⟨_, rfl⟩
        obtain ⟨v, hv⟩ : ∃ v, v = sumM amch (l.take k) := ⟨_, rfl⟩
        have hsv : Small v := by rw [hv]; exact HSm.out k
        have HSv := Lib.hid hsv
        unfold amch at hsum
        rw [← hA, ← hC] at hsum
        rw [← hv] at HS
        rw [← hA] at z0 hA1
        rw [← hC] at z1 hC1
        have HS1 : Hid (sumM amch (l.take (k + 1)) = v + A * C) := by rw [hv]; exact Lib.hid hsum
        have HM := Lib.hid (mul_small hA1 hC1)
        have HOA := Lib.hid (fun W => of_any A W hA1.1 hA1.2)
        have HOC := Lib.hid (fun W => of_any C W hC1.1 hC1.2)
        have HSA := Lib.hid (small64 hA1.1 hA1.2)
        have HSC := Lib.hid (small64 hC1.1 hC1.2)
        have HX : Hid (MbX bb (o + k * 2) A C wr) := ⟨z0, z1⟩
        clear hx hmem hsum hA hC hv hsv hA1 hC1
        go_wp2_with fail
        go_region_with (first
          | (go_at_call 15; ((with_reducible refine (HOA.out _).mono ?_); rintro e' u1 ⟨s1, a1, n1, p1, rfl, hE1, hb1⟩; have kT1 := Lib.hid (HS.out.drew.up hb1); have kX1 := Lib.hid (HX.out.drew.up hb1); have kE1 := Lib.hid hE1; have kB1 := Lib.hid (up2 HB.out.drew hb1); clear hE1 hb1; obtain ⟨x0, x1, y0, y1⟩ := kT1.out.row; obtain ⟨q0, q1⟩ := kX1.out))
          | (go_at_call 15; ((with_reducible refine (HOC.out _).mono ?_); rintro e' u2 ⟨s2, a3, n2, p2, rfl, hE2, hb2⟩; have kT2 := Lib.hid (kT1.out.up hb2); have kE1b := Lib.hid (kE1.out.below hb2); have kE2 := Lib.hid hE2; have kB2 := Lib.hid (up2 kB1.out hb2); clear hE2 hb2; obtain ⟨x2, x3, y2, y3⟩ := kT2.out.row))
          | (go_at_call 19; ((with_reducible refine (by_ex s1 s2 A C a1 a3 n1 n2 p1 p2 _ kE1b.out kE2.out HSA.out HSC.out).mono ?_); rintro e' u3 ⟨s3, a4, n3, p3, rfl, hE3, hb3⟩; have kT3 := Lib.hid (kT2.out.up hb3); have kE3 := Lib.hid hE3; have kB3 := Lib.hid (up2 kB2.out hb3); clear hE3 hb3; obtain ⟨x4, x5, y4, y5⟩ := kT3.out.row))
          | (go_at_call 16; ((with_reducible refine (plus_ex s s3 v (A * C) a2 a4 l2 n3 c2 p3 _ kT3.out.ex kE3.out HSv.out HM.out).mono ?_); rintro e' u4 ⟨s4, a5, n4, p4, rfl, hE4, hb4⟩; have kT4 := Lib.hid (kT3.out.up hb4); have kE4 := Lib.hid hE4; have kB4 := Lib.hid (up2 kB3.out hb4); clear hE4 hb4; obtain ⟨x6, x7, y6, y7⟩ := kT4.out.row)))
        all_goals
          go_wp2_with fail
          go_roundw
          case rel =>
            refine ⟨k + 1, by omega, by go_num, ⟨s4, a5, n4, p4, ?_⟩, (kB4.out.setCell (Nat.le_refl _) _).setCell (Nat.le_refl _) _⟩
            rw [HS1.out]; exact kT4.out.put kE4.out
          case measure => simp [intOf]; omega
      · obtain rfl : k = n := by omega
        have hk1 : ¬ (k : Int) < (k : Int) := by omega
        have K0 := Lib.hid HS.out.drew
        have HB0' := Lib.hid HB.out.drew
        go_wp2_with fail
        go_region_held3 (fun w' => w'.cell? ⟨w.heap.size, 0, none⟩ = some (.int .i64 s) ∧ w'.cell? ⟨w.heap.size, 1, none⟩ = some (.slice a2 l2 c2))
          (first | (change SmC w.heap.size s a2 l2 c2 _; (first | with_reducible exact K0.out.sc | with_reducible exact k1.out.sc | with_reducible exact k2.out.sc | with_reducible exact k3.out.sc | with_reducible exact k4.out.sc | with_reducible exact k5.out.sc)))
          (first
            | (go_at_call 15; ((with_reducible refine (HOf.out _).mono ?_); rintro e u1 ⟨s1, a1, n1, p1, rfl, hE1, hb1⟩; have k1 := Lib.hid (K0.out.up hb1); have b1 := Lib.hid (up2 HB0'.out hb1); have E1 := Lib.hid hE1; clear hE1 hb1))
            | (go_at_call 15; ((with_reducible refine (HOW.out _).mono ?_); rintro e u2 ⟨s2, a3, n2, p2, rfl, hE2, hb2⟩; have k2 := Lib.hid (k1.out.up hb2); have b2 := Lib.hid (up2 b1.out hb2); have E1b := Lib.hid (E1.out.below hb2); have E2 := Lib.hid hE2; clear hE2 hb2))
            | (go_at_call 20; ((with_reducible refine (over_any s s2 (sumM amch (l.take k)) 10000 a2 a3 l2 n2 c2 p2 _ k2.out.ex E2.out HLim.out (by decide) (by decide)).mono ?_); rintro e u3 ⟨s3, a4, n3, p3, rfl, hE3, hb3⟩; have k3 := Lib.hid (k2.out.up hb3); have b3 := Lib.hid (up2 b2.out hb3); have E1c := Lib.hid (E1b.out.below hb3); have E3 := Lib.hid (HD.out.symm ▸ hE3); clear hE3 hb3))
            | (go_at_call 16; ((with_reducible refine (plus_ex s1 s3 f D a1 a4 n1 n3 p1 p3 _ E1c.out E3.out HSf.out HSD.out).mono ?_); rintro e u4 ⟨s4, a5, n4, p4, rfl, hE4, hb4⟩; have k4 := Lib.hid (k3.out.up hb4); have b4 := Lib.hid (up2 b3.out hb4); have E4 := Lib.hid hE4; clear hE4 hb4))
            | (go_at_call 17; ((with_reducible refine (HPr.out s4 a5 n4 p4 _ E4.out).mono ?_); rintro e u5 ⟨rfl, hb5⟩; have k5 := Lib.hid (k4.out.up hb5); have b5 := Lib.hid (up2 b4.out hb5); clear hb5)))
        all_goals
          go_wp2_with fail
          go_ret2
          exact ⟨rfl, b5.out⟩
  · have hne : wrE f l 0 ≠ 0 := by rw [← hE]; exact q
    have hce : meaE f l = E := by unfold meaE; rw [if_pos hne, hE]
    have hcv : meaV f l = 0 := by unfold meaV; rw [if_neg (by rw [hce]; exact q)]
    rw [← hE] at HW
    rw [hce, hcv]
    have hq : (E != 0) = true := by simpa using q
    clear hl hE hne hce hcv q hf ha hn
    go_enter Try.func11, Try.ntmps11
    go_wp2_with fail
    refine HW.out.mono ?_
    rintro e w1 ⟨rfl, rfl⟩
    go_wp2_with fail
    go_ret2
    exact ⟨rfl, Below.refl _ _⟩
end Go.Proofs.Ythogokflobnfpaa
