/- Contracts: least, Neg. -/
import Derived.Test.YtiaocahcdbikhaaR
namespace Go.Proofs.Ytiaocahcdbikhaa
open Go.RowKit

theorem at_k {a : Option Addr} {cap : Nat} {l : List Int} {w : World} (h : Dg w a cap l) (j len : Nat) (hl : l.length = len) :
    Calls Try.prog 32 #[.slice a len cap, .int .i64 (j : Int)] w fun e w' => e = .returned (.int .i64 (dg l j)) ∧ w = w' := by
  have := at_any h (j : Int) (by omega) len hl
  rw [Int.toNat_natCast] at this
  exact this

set_option maxRecDepth 100000 in
set_option maxHeartbeats 800000 in
theorem least_any (a b : Option Addr) (lena lenb capa capb : Nat) (la lb : List Int) (w : World) (ha : Dg w a capa la) (hb : Dg w b capb lb) (oa : DigOk la) (ob : DigOk lb) (ea : la.length = lena) (eb : lb.length = lenb) (h1 : lena ≤ 1000) (h2 : lenb ≤ 1000) :
    Calls Try.prog 34 #[.slice a lena capa, .slice b lenb capb] w fun e w' => e = .returned (.bool (decide (lval la < lval lb))) ∧ w = w' := by
  have HA := Lib.hid ha; have HB := Lib.hid hb; have OA := Lib.hid oa; have OB := Lib.hid ob; have EA := Lib.hid ea; have EB := Lib.hid eb
  clear ha hb oa ob ea eb
  go_enter Try.func34, Try.ntmps34
  go_wp2_with fail
  all_goals
    go_loop [5] (fun i => ∃ k : Int, -1 ≤ k ∧ k ≤ 1000 ∧ i = .int .i64 k ∧ Hid (∀ j : Nat, k < j → dg la j = dg lb j)) (fun i => (intOf i + 1).toNat)
    case atStart => exact ⟨_, by omega, by omega, rfl, Lib.hid (fun j hj => by have := EA.out; have := EB.out; rw [dg_beyond (by omega), dg_beyond (by omega)])⟩
    case round =>
      obtain ⟨k, hk, hk2, rfl, HK⟩ := hrel
      by_cases hz : 0 ≤ k
      · obtain ⟨j, rfl⟩ := Int.eq_ofNat_of_zero_le hz
        by_cases hne : dg la j = dg lb j
        · have hq : (dg la j != dg lb j) = false := by rw [hne]; simp
          have HK2 : Hid (∀ i : Nat, (j : Int) - 1 < i → dg la i = dg lb i) := fun i hi => by
            by_cases e : i = j
            · rw [e]; exact hne
            · exact HK.out i (by omega)
          clear hne
          go_wp2_with fail
          refine (at_k HA.out j lena EA.out).mono ?_
          rintro _ _ ⟨rfl, rfl⟩
          go_wp2_with fail
          refine (at_k HB.out j lenb EB.out).mono ?_
          rintro _ _ ⟨rfl, rfl⟩
          go_wp2_with fail
          go_round
          case rel => exact ⟨(j : Int) - 1, by omega, by omega, rfl, HK2⟩
          case measure => simp [intOf]
        · have hq : (dg la j != dg lb j) = true := by rw [bne_iff_ne]; exact hne
          have HR : Hid (decide (dg la j < dg lb j) = decide (lval la < lval lb)) := by
            show _ = _
            by_cases hlt : dg la j < dg lb j
            · rw [decide_eq_true hlt, decide_eq_true (least_lt OA.out OB.out (fun i hi => HK.out i (by omega)) hlt)]
            · have h3 := least_lt OB.out OA.out (i := j) (fun i hi => (HK.out i (by omega)).symm) (by omega)
              rw [decide_eq_false hlt, decide_eq_false (by omega)]
          clear hne
          go_wp2_with fail
          refine (at_k HA.out j lena EA.out).mono ?_
          rintro _ _ ⟨rfl, rfl⟩
          go_wp2_with fail
          refine (at_k HB.out j lenb EB.out).mono ?_
          rintro _ _ ⟨rfl, rfl⟩
          go_wp2_with fail
          refine (at_k HA.out j lena EA.out).mono ?_
          rintro _ _ ⟨rfl, rfl⟩
          go_wp2_with fail
          refine (at_k HB.out j lenb EB.out).mono ?_
          rintro _ _ ⟨rfl, rfl⟩
          go_wp2_with fail
          go_ret
          exact ⟨by rw [← HR.out]; rfl, rfl⟩
      · have HE := Lib.hid (least_eq (a := la) (b := lb) (fun j => HK.out j (by omega)))
        go_wp2_with fail
        go_ret
        exact ⟨by rw [HE.out, decide_eq_false (by omega)]; rfl, rfl⟩

set_option maxRecDepth 100000 in
set_option maxHeartbeats 400000 in
theorem neg_any (s n : Int) (a : Option Addr) (len cap : Nat) (w : World) (h : Ex w s a len cap n) : Calls Try.prog 39 #[.agg #[.int .i64 s, .slice a len cap]] w (ExPost w (-n)) := by
  have HE := Lib.hid h
  have hs : -1 ≤ s ∧ s ≤ 1 := by
    rw [h.1]
    rcases Int.lt_trichotomy n 0 with g | g | g
    · rw [Int.sign_eq_neg_one_of_neg g]; omega
    · rw [g]; decide
    · rw [Int.sign_eq_one_of_pos g]; omega
  obtain ⟨hs1, hs2⟩ := hs
  clear h
  go_enter Try.func39, Try.ntmps39
  go_wp2
  have hB : Below w.heap.size w ((w.alloc (.cells #[.int .i64 s, .slice a len cap] 50)).alloc (.cells #[.int .i64 (-s), .slice a len cap] 50)) := ((Below.refl _ _).alloc (Nat.le_refl _) _).alloc (by simp) _
  have hE : Ex w (-s) a len cap (-n) := by
    obtain ⟨h1, l, h2, h3, h4, h5, h6⟩ := HE.out
    exact ⟨by rw [h1, Int.sign_neg], l, h2, h3, h4, h5, by rw [Int.natAbs_neg]; exact h6⟩
  exact bodyPost_ret (v := .agg #[.int .i64 (-s), .slice a len cap]) (by simp [results, Try.results39, go_sem]) rfl ⟨-s, a, len, cap, rfl, hE.below hB, hB⟩
end Go.Proofs.Ytiaocahcdbikhaa
