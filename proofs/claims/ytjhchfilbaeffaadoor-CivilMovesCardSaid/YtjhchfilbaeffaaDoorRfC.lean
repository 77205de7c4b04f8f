/- Contract of the document's answer: Move. -/
import Derived.Test.YtjhchfilbaeffaaDoorRfB
namespace Go.Proofs.YtjhchfilbaeffaaDoor
open Go.RowKit

theorem rdate_is (n y m d : Int) (w : World) (hI : Isd n y m d) :
    Calls Tryd.prog 12 #[.int .i64 n] w fun e w' => e = .returned (.tuple #[.int .i64 y, .int .i64 m, .int .i64 d, .int .i64 0]) ∧ Below w.heap.size w w' := by
  have hb := isd_bd hI
  refine (rdate_yes n w hb.1 hb.2).mono ?_
  rintro e w' ⟨y', m', d', rfl, h, b⟩
  obtain ⟨rfl, rfl, rfl⟩ := isd_one h hI
  exact ⟨rfl, b⟩

theorem rmove_none (n q : Int) (w : World) (h : ¬ (1 ≤ n ∧ n ≤ 999668)) :
    Calls Tryd.prog 20 #[.int .i64 n, .int .i64 q] w fun e w' => e = .returned (.tuple #[.int .i64 0, .int .i64 1]) ∧ Below w.heap.size w w' := by
  go_enter Tryd.func20, Tryd.ntmps20
  go_wp2_with fail
  refine (rdate_no n w h).mono ?_
  rintro e w' ⟨rfl, rfl⟩
  go_wp2_with fail
  go_ret2
  exact ⟨rfl, Below.refl _ _⟩
theorem rmove_over (n y m d q : Int) (w : World) (hI : Isd n y m d) (h : 40000 < q) :
    Calls Tryd.prog 20 #[.int .i64 n, .int .i64 q] w fun e w' => e = .returned (.tuple #[.int .i64 0, .int .i64 1]) ∧ Below w.heap.size w w' := by
  have HI := Lib.hid hI
  clear hI
  go_enter Tryd.func20, Tryd.ntmps20
  go_wp2_with fail
  refine (rdate_is n y m d w HI.out).mono ?_
  rintro e w' ⟨rfl, hb⟩
  have HB := Lib.hid hb
  clear hb
  go_wp2_with fail
  go_ret2
  exact ⟨rfl, HB.out⟩
theorem rmove_under (n y m d q : Int) (w : World) (hI : Isd n y m d) (h : q < -40000) :
    Calls Tryd.prog 20 #[.int .i64 n, .int .i64 q] w fun e w' => e = .returned (.tuple #[.int .i64 0, .int .i64 1]) ∧ Below w.heap.size w w' := by
  have HI := Lib.hid hI
  clear hI
  go_enter Tryd.func20, Tryd.ntmps20
  go_wp2_with fail
  refine (rdate_is n y m d w HI.out).mono ?_
  rintro e w' ⟨rfl, hb⟩
  have HB := Lib.hid hb
  clear hb
  go_wp2_with fail
  go_ret2
  exact ⟨rfl, HB.out⟩

/-- what Move tells of a day of the month, so many months behind the first of all -/
def MvPost (w : World) (K d : Int) (e : Ending) (w' : World) : Prop :=
  e = .returned (.tuple #[.int .i64 (if 0 ≤ K ∧ K ≤ 32843 then mto K d else 0), .int .i64 (if 0 ≤ K ∧ K ≤ 32843 then 0 else 1)]) ∧ Below w.heap.size w w'
theorem mv_yes {w w' : World} {K d : Int} (h : 0 ≤ K ∧ K ≤ 32843) (hb : Below w.heap.size w w') : MvPost w K d (.returned (.tuple #[.int .i64 (mto K d), .int .i64 0])) w' := by
  unfold MvPost; rw [if_pos h, if_pos h]; exact ⟨rfl, hb⟩
theorem mv_no {w w' : World} {K d : Int} (h : ¬ (0 ≤ K ∧ K ≤ 32843)) (hb : Below w.heap.size w w') : MvPost w K d (.returned (.tuple #[.int .i64 0, .int .i64 1])) w' := by
  unfold MvPost; rw [if_neg h, if_neg h]; exact ⟨rfl, hb⟩

set_option maxRecDepth 100000 in
set_option maxHeartbeats 4000000 in
theorem rmove_some (n y m d q : Int) (w : World) (hI : Isd n y m d) (q1 : -40000 ≤ q) (q2 : q ≤ 40000) :
    Calls Tryd.prog 20 #[.int .i64 n, .int .i64 q] w (MvPost w (mah y m + q) d) := by
  have HI := Lib.hid hI
  have db := dim_bd y m
  obtain ⟨⟨y1, y2, m1, m2, d1, d2⟩, _⟩ := hI
  have d3 : d ≤ 31 := by omega
  obtain ⟨K, hK⟩ : ∃ K, K = mah y m + q := ⟨_, rfl⟩
  rw [← hK]
  unfold mah at hK
  have HK := Lib.hid hK
  clear hK d2 db
  go_enter Tryd.func20, Tryd.ntmps20
  go_wp2_with fail
  refine (rdate_is n y m d w HI.out).mono ?_
  rintro e w1 ⟨rfl, hb⟩
  have HB := Lib.hid hb
  clear hb
  go_wp2_with fail
  go_loop [6, 7, 10] (fun a b i => ∃ u v k : Int, a = .int .i64 u ∧ b = .int .i64 v ∧ i = .int .i64 k ∧ 0 ≤ k ∧ (k ≤ q ∨ k = 0) ∧ 1 ≤ v ∧ v ≤ 12 ∧ 12 * u + v = 12 * y + m + k) (fun _ _ i => (q - intOf i).toNat)
  case atStart => exact ⟨y, m, 0, rfl, rfl, rfl, by omega, .inr rfl, m1, m2, by omega⟩
  case round =>
    obtain ⟨u, v, k, rfl, rfl, rfl, k0, k1, v1, v2, hs⟩ := hrel
    have HS := Lib.hid hs
    have u1 : -10000 ≤ u := by omega
    have u2 : u ≤ 10000 := by omega
    have k2 : k ≤ 40000 := by omega
    have HK1 := Lib.hid k1
    clear hs k1
    by_cases hlt : k < q
    · by_cases h12 : 12 < v + 1
      · go_wp2_with fail
        go_round
        case rel => exact ⟨u + 1, 1, k + 1, by go_num, rfl, by go_num, by omega, .inl (by omega), by omega, by omega, by have := HS.out; omega⟩
        case measure => simp [intOf]; omega
      · go_wp2_with fail
        go_round
        case rel => exact ⟨u, v + 1, k + 1, rfl, by go_num, by go_num, by omega, .inl (by omega), by omega, by omega, by have := HS.out; omega⟩
        case measure => simp [intOf]; omega
    · have HQ : Hid (k = max q 0) := Lib.hid (by have := HK1.out; omega)
      go_wp2_with fail
      go_loop [6, 7, 11] (fun a b i => ∃ u v k2 : Int, a = .int .i64 u ∧ b = .int .i64 v ∧ i = .int .i64 k2 ∧ k2 ≤ 0 ∧ (q ≤ k2 ∨ k2 = 0) ∧ 1 ≤ v ∧ v ≤ 12 ∧ 12 * u + v = 12 * y + m + k + k2) (fun _ _ i => (intOf i - q).toNat)
      case atStart => exact ⟨u, v, 0, rfl, rfl, rfl, by omega, .inr rfl, v1, v2, by have := HS.out; omega⟩
      case round =>
        obtain ⟨a, b, j, rfl, rfl, rfl, j0, j1, b1, b2, ht⟩ := hrel
        have HT := Lib.hid ht
        have a1 : -10000 ≤ a := by omega
        have a2 : a ≤ 10000 := by omega
        have j2 : -40000 ≤ j := by omega
        have HJ1 := Lib.hid j1
        clear ht j1
        by_cases hgt : q < j
        · by_cases h1 : b - 1 < 1
          · go_wp2_with fail
            go_round
            case rel => exact ⟨a - 1, 12, j - 1, by go_num, rfl, by go_num, by omega, .inl (by omega), by omega, by omega, by have := HT.out; omega⟩
            case measure => simp [intOf]; omega
          · go_wp2_with fail
            go_round
            case rel => exact ⟨a, b - 1, j - 1, rfl, by go_num, by go_num, by omega, .inl (by omega), by omega, by omega, by have := HT.out; omega⟩
            case measure => simp [intOf]; omega
        · have HE : Hid (12 * a + b = K + 13) := Lib.hid (by have e1 := HT.out; have e2 := HQ.out; have e3 := HJ1.out; have e4 := HK.out; omega)
          clear hlt
          by_cases l1 : a < 1
          · go_wp2_with fail
            exact bodyPost_ret (v := .tuple #[.int .i64 0, .int .i64 1]) (by simp [results, Tryd.results20, go_sem]) rfl (mv_no (by have := HE.out; omega) HB.out)
          by_cases l2 : 2737 < a
          · go_wp2_with fail
            exact bodyPost_ret (v := .tuple #[.int .i64 0, .int .i64 1]) (by simp [results, Tryd.results20, go_sem]) rfl (mv_no (by have := HE.out; omega) HB.out)
          have hk0 : 0 ≤ K := by have := HE.out; omega
          have hk1 : K ≤ 32843 := by have := HE.out; omega
          have ea : a = K / 12 + 1 := by have := HE.out; omega
          have eb : b = K % 12 + 1 := by have := HE.out; omega
          have HMay := Lib.hid (may_of hk0 hk1 d1)
          have HMt : Hid (mto K d = num (K / 12 + 1) (K % 12 + 1) (min d (dim (K / 12 + 1) (K % 12 + 1)))) := Lib.hid rfl
          rw [← ea, ← eb] at HMay HMt
          have HKK := Lib.hid (And.intro hk0 hk1)
          clear hk0 hk1 ea eb
          by_cases ml : d ≤ dim a b
          · have e : min d (dim a b) = d := by omega
            rw [e] at HMay HMt
            clear e
            go_wp2_with fail
            refine (rlong_any a b w1 (am_small (by omega) (by omega))).mono ?_
            rintro e w2 ⟨rfl, hb⟩
            have HB2 := Lib.hid (up2 HB.out hb)
            clear hb
            go_wp2_with fail
            refine (rdays_yes a b d w2 HMay.out).mono ?_
            rintro e w3 ⟨rfl, hb⟩
            have HB3 := Lib.hid (up2 HB2.out hb)
            clear hb
            rw [← HMt.out]
            go_wp2_with fail
            exact bodyPost_ret (v := .tuple #[.int .i64 (mto K d), .int .i64 0]) (by simp [results, Tryd.results20, go_sem]) rfl (mv_yes HKK.out HB3.out)
          · have ml2 : dim a b < d := by omega
            have e : min d (dim a b) = dim a b := by omega
            rw [e] at HMay HMt
            clear e ml
            go_wp2_with fail
            refine (rlong_any a b w1 (am_small (by omega) (by omega))).mono ?_
            rintro e w2 ⟨rfl, hb⟩
            have HB2 := Lib.hid (up2 HB.out hb)
            clear hb
            go_wp2_with fail
            refine (rdays_yes a b (dim a b) w2 HMay.out).mono ?_
            rintro e w3 ⟨rfl, hb⟩
            have HB3 := Lib.hid (up2 HB2.out hb)
            clear hb
            rw [← HMt.out]
            go_wp2_with fail
            exact bodyPost_ret (v := .tuple #[.int .i64 (mto K d), .int .i64 0]) (by simp [results, Tryd.results20, go_sem]) rfl (mv_yes HKK.out HB3.out)
end Go.Proofs.YtjhchfilbaeffaaDoor
