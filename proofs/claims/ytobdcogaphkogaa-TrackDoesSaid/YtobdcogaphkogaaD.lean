/- Contracts: shares added, the walk. -/
import Derived.Test.YtobdcogaphkogaaC
namespace Go.Proofs.Ytobdcogaphkogaa
open Go.RowKit

set_option maxHeartbeats 800000 in
theorem splus_lt (a b r s m : Int) (w : World) (r1 : 0 ≤ r) (r2 : r < 9223372036854775808) (s1 : 0 ≤ s) (s2 : s < 9223372036854775808) (h : r + s < m) :
    Calls Try.prog 68 #[.agg #[.int .u64 (hiW a), .int .u64 (loW a), .int .u64 r], .agg #[.int .u64 (hiW b), .int .u64 (loW b), .int .u64 s], .int .u64 m] w fun e w' =>
      e = .returned (.agg #[.int .u64 (hiW (a + b)), .int .u64 (loW (a + b)), .int .u64 (r + s)]) ∧ Below w.heap.size w w' := by
  have hw : IntKind.u64.wrap (r + s) = r + s := by
    simp [IntKind.wrap, IntKind.bits, IntKind.signed]; omega
  have HF := Lib.hid (full_start w (.int .u64 (hiW a)) (.int .u64 (loW a)) (.int .u64 r) (.int .u64 (hiW b)) (.int .u64 (loW b)) (.int .u64 s) 100)
  go_enter Try.func68, Try.ntmps68
  go_upto_region 1 with fail
  obtain ⟨W0, hW0⟩ : ∃ W0, W0 = (((w.alloc (.cells #[.int .u64 (hiW a), .int .u64 (loW a), .int .u64 r] 100)).alloc (.cells #[.int .u64 (hiW b), .int .u64 (loW b), .int .u64 s] 100)).alloc (.cells #[.int .u64 0, .int .u64 0, .int .u64 0] 100)) := ⟨_, rfl⟩
  rw [← hW0] at HF
  rw [← hW0]
  clear hW0
  have hN : w.heap.size + 3 ≤ W0.heap.size := HF.out.2.2.2.2.2.2.2.1
  go_cut [7] (fun s7 wx => ∃ p : Nat, s7 = .pointer (some ⟨p, 0, none⟩) ∧ w.heap.size + 3 ≤ p ∧ Row3 wx p (.int .u64 (hiW (a + b))) (.int .u64 (loW (a + b))) (.int .u64 (r + s)) ∧ St w.heap.size w wx (.int .u64 0) (.int .u64 0) (.int .u64 0))
  case first =>
    go_region_held3 (fun w' => w'.cell? ⟨w.heap.size, 0, none⟩ = some (.int .u64 (hiW a)) ∧ w'.cell? ⟨w.heap.size, 1, none⟩ = some (.int .u64 (loW a)) ∧ w'.cell? ⟨w.heap.size, 2, none⟩ = some (.int .u64 r)
       ∧ w'.cell? ⟨w.heap.size + 1, 0, none⟩ = some (.int .u64 (hiW b)) ∧ w'.cell? ⟨w.heap.size + 1, 1, none⟩ = some (.int .u64 (loW b)) ∧ w'.cell? ⟨w.heap.size + 1, 2, none⟩ = some (.int .u64 s) ∧ St w.heap.size w w' (.int .u64 0) (.int .u64 0) (.int .u64 0))
      ((change Full w.heap.size w _ _ _ _ _ _ _; with_reducible (first | exact HF.out.drew | exact kF.out | exact kF.out.alloc _ | exact (HF.out.alloc _).drew | exact ((kF.out.set hN _).set hN _).set hN _ )))
      (first | (go_at_call 63; ((with_reducible refine (plus_any a b _).mono ?_); rintro e w' ⟨rfl, hb⟩; first | with_reducible (have kF := Lib.hid (HF.out.drew.below hb)) | ((with_reducible have kF := Lib.hid ((HF.out.alloc _).drew.below hb)); obtain ⟨n0, n1, n2, f0, f1, f2⟩ := (Row3.new W0 (.int .u64 0) (.int .u64 0) (.int .u64 0) 100).drew.below hb))))
    · go_wp2_with fail
      go_meet
      exact ⟨_, rfl, kF.out.2.2.2.2.2.2.2.1, Row3.new _ _ _ _ _, kF.out.2.2.2.2.2.2.alloc _⟩
    · go_wp2_with fail
      go_meet
      exact ⟨_, rfl, hN, Row3.put ⟨n0, n1, n2, f0, f1, f2⟩ _ _ _, ((kF.out.2.2.2.2.2.2.set hN _).set hN _).set hN _⟩
  case rest =>
    obtain ⟨p, rfl, hp, ⟨c0, c1, c2, e0, e1, e2⟩, hb, hs, d0, d1, d2, g0, g1, g2⟩ := hcut
    clear HF hN
    go_wp2
    exact bodyPost_ret (v := .agg #[.int .u64 (hiW (a + b)), .int .u64 (loW (a + b)), .int .u64 (r + s)]) (by simp [results, Try.results68, go_sem, d0, d1, d2]) rfl
      ⟨rfl, ((hb.setCell (by simp; omega) _).setCell (by simp; omega) _).setCell (by simp; omega) _⟩

set_option maxHeartbeats 800000 in
theorem splus_ge (a b r s m : Int) (w : World) (r1 : 0 ≤ r) (r2 : r < 9223372036854775808) (s1 : 0 ≤ s) (s2 : s < 9223372036854775808) (h : m ≤ r + s) (hm : 1 ≤ m) (hm2 : m ≤ 9223372036854775807) :
    Calls Try.prog 68 #[.agg #[.int .u64 (hiW a), .int .u64 (loW a), .int .u64 r], .agg #[.int .u64 (hiW b), .int .u64 (loW b), .int .u64 s], .int .u64 m] w fun e w' =>
      e = .returned (.agg #[.int .u64 (hiW (a + b + 1)), .int .u64 (loW (a + b + 1)), .int .u64 (r + s - m)]) ∧ Below w.heap.size w w' := by
  have hw : IntKind.u64.wrap (r + s) = r + s := by
    simp [IntKind.wrap, IntKind.bits, IntKind.signed]; omega
  have hv : IntKind.u64.wrap (r + s - m) = r + s - m := by
    simp [IntKind.wrap, IntKind.bits, IntKind.signed]; omega
  have HF := Lib.hid (full_start w (.int .u64 (hiW a)) (.int .u64 (loW a)) (.int .u64 r) (.int .u64 (hiW b)) (.int .u64 (loW b)) (.int .u64 s) 100)
  go_enter Try.func68, Try.ntmps68
  go_upto_region 1 with fail
  obtain ⟨W0, hW0⟩ : ∃ W0, W0 = (((w.alloc (.cells #[.int .u64 (hiW a), .int .u64 (loW a), .int .u64 r] 100)).alloc (.cells #[.int .u64 (hiW b), .int .u64 (loW b), .int .u64 s] 100)).alloc (.cells #[.int .u64 0, .int .u64 0, .int .u64 0] 100)) := ⟨_, rfl⟩
  rw [← hW0] at HF
  rw [← hW0]
  clear hW0
  have hN : w.heap.size + 3 ≤ W0.heap.size := HF.out.2.2.2.2.2.2.2.1
  go_cut [7] (fun s7 wx => ∃ p : Nat, s7 = .pointer (some ⟨p, 0, none⟩) ∧ w.heap.size + 3 ≤ p ∧ Row3 wx p (.int .u64 (hiW (a + b))) (.int .u64 (loW (a + b))) (.int .u64 (r + s)) ∧ St w.heap.size w wx (.int .u64 0) (.int .u64 0) (.int .u64 0))
  case first =>
    go_region_held3 (fun w' => w'.cell? ⟨w.heap.size, 0, none⟩ = some (.int .u64 (hiW a)) ∧ w'.cell? ⟨w.heap.size, 1, none⟩ = some (.int .u64 (loW a)) ∧ w'.cell? ⟨w.heap.size, 2, none⟩ = some (.int .u64 r)
       ∧ w'.cell? ⟨w.heap.size + 1, 0, none⟩ = some (.int .u64 (hiW b)) ∧ w'.cell? ⟨w.heap.size + 1, 1, none⟩ = some (.int .u64 (loW b)) ∧ w'.cell? ⟨w.heap.size + 1, 2, none⟩ = some (.int .u64 s) ∧ St w.heap.size w w' (.int .u64 0) (.int .u64 0) (.int .u64 0))
      ((change Full w.heap.size w _ _ _ _ _ _ _; with_reducible (first | exact HF.out.drew | exact kF.out | exact kF.out.alloc _ | exact (HF.out.alloc _).drew | exact ((kF.out.set hN _).set hN _).set hN _ )))
      (first | (go_at_call 63; ((with_reducible refine (plus_any a b _).mono ?_); rintro e w' ⟨rfl, hb⟩; first | with_reducible (have kF := Lib.hid (HF.out.drew.below hb)) | ((with_reducible have kF := Lib.hid ((HF.out.alloc _).drew.below hb)); obtain ⟨n0, n1, n2, f0, f1, f2⟩ := (Row3.new W0 (.int .u64 0) (.int .u64 0) (.int .u64 0) 100).drew.below hb))))
    · go_wp2_with fail
      go_meet
      exact ⟨_, rfl, kF.out.2.2.2.2.2.2.2.1, Row3.new _ _ _ _ _, kF.out.2.2.2.2.2.2.alloc _⟩
    · go_wp2_with fail
      go_meet
      exact ⟨_, rfl, hN, Row3.put ⟨n0, n1, n2, f0, f1, f2⟩ _ _ _, ((kF.out.2.2.2.2.2.2.set hN _).set hN _).set hN _⟩
  case rest =>
    obtain ⟨p, rfl, hp, hR, hS⟩ := hcut
    clear HF hN
    have HR := Lib.hid (hR.put2 (.int .u64 (r + s - m)))
    have HS := Lib.hid (hS.set (a := ⟨p, 2, none⟩) hp (.int .u64 (r + s - m)))
    obtain ⟨c0, c1, c2, e0, e1, e2⟩ := hR
    clear hS
    go_wp2_with fail
    obtain ⟨Wd, hWd⟩ : ∃ Wd, Wd = wc.setCell ⟨p, 2, none⟩ (.int .u64 (r + s - m)) := ⟨_, rfl⟩
    rw [← hWd] at HR HS
    rw [← hWd]
    clear hWd c0 c1 c2 e0 e1 e2
    obtain ⟨c0, c1, c2, e0, e1, e2⟩ := HR.out
    go_region_with (first | (go_at_call 62; ((with_reducible refine (widen_any 1 _ (by omega) (by omega)).mono ?_); rintro e w1 ⟨rfl, hb1⟩; have kR1 := Lib.hid (HR.out.drew.below hb1); have kS1 := Lib.hid (HS.out.drew.below hb1); obtain ⟨x0, x1, x2, y0, y1, y2⟩ := kR1.out)) | (go_at_call 63; ((with_reducible refine (plus_any (a + b) 1 _).mono ?_); rintro e w2 ⟨rfl, hb2⟩; have kR2 := Lib.hid (kR1.out.below hb2); have kS2 := Lib.hid (kS1.out.below hb2); obtain ⟨z0, z1, z2, t0, t1, t2⟩ := kR2.out)))
    all_goals
      have HR3 := Lib.hid (kR2.out.put01 (.int .u64 (hiW (a + b + 1))) (.int .u64 (loW (a + b + 1))))
      have HS3 := Lib.hid ((kS2.out.set (a := ⟨p, 0, none⟩) hp (.int .u64 (hiW (a + b + 1)))).set (a := ⟨p, 1, none⟩) hp (.int .u64 (loW (a + b + 1))))
      obtain ⟨We, hWe⟩ : ∃ We, We = (w2.setCell ⟨p, 0, none⟩ (.int .u64 (hiW (a + b + 1)))).setCell ⟨p, 1, none⟩ (.int .u64 (loW (a + b + 1))) := ⟨_, rfl⟩
      rw [← hWe] at HR3 HS3
      rw [← hWe]
      clear hWe c0 c1 c2 e0 e1 e2 x0 x1 x2 y0 y1 y2 z0 z1 z2 t0 t1 t2 kR1 kS1 kR2 kS2 hb1 hb2 HR HS
      obtain ⟨c0, c1, c2, e0, e1, e2⟩ := HR3.out
      obtain ⟨hb, hs, d0, d1, d2, g0, g1, g2⟩ := HS3.out
      go_wp2
      exact bodyPost_ret (v := .agg #[.int .u64 (hiW (a + b + 1)), .int .u64 (loW (a + b + 1)), .int .u64 (r + s - m)]) (by simp [results, Try.results68, go_sem, d0, d1, d2]) rfl
        ⟨rfl, ((hb.setCell (by simp; omega) _).setCell (by simp; omega) _).setCell (by simp; omega) _⟩
end Go.Proofs.Ytobdcogaphkogaa
