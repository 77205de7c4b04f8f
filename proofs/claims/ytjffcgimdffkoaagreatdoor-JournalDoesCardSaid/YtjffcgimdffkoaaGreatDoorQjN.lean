/- JournalDoes: the core. -/
import Derived.Test.YtjffcgimdffkoaaGreatDoorQjM
namespace Go.Proofs.YtjffcgimdffkoaaGreatDoor
open Go.RowKit

set_option maxRecDepth 100000 in
set_option maxHeartbeats 16000000 in
theorem does_main (w : World) (n : Int) (a : Option Addr) (len cap : Nat) (L : Nat → OpJ) (hL : OpsJ w a len L) (h3 : 3 ≤ n) (h60 : n ≤ 60) (hlen : len ≤ 30) (hT : Tb w) :
    Calls Tryz.prog 3 #[.int .i64 n, .slice a len cap] w fun e w' => e = .returned (.bool true) ∧ Below w.heap.size w w' := by
  have HT := Lib.hid hT
  have HL := Lib.hid hL
  have hn60 : ¬ (60 < n) := by omega
  have hl30 : ¬ (30 < (len : Int)) := by omega
  clear hT hL
  go_enter Tryz.func3, Tryz.ntmps3
  go_wp2_with fail
  refine (jn_awake w HT.out).mono ?_
  rintro e w1 ⟨rfl, hb1⟩
  have B1 := Lib.hid hb1
  clear hb1
  go_wp2_with fail
  refine (size_any w1 a len cap L (HL.out.up B1.out) (by omega)).mono ?_
  rintro e w' ⟨N, rfl, ⟨hN0, hN1⟩, hN, rfl⟩
  have HNN := Lib.hid hN
  clear hN
  by_cases h4 : N ≤ 4000
  · have h4' : ¬ (4000 < N) := by omega
    go_wp2_with fail
    refine (new_at w1 n h3 (by omega)).mono ?_
    rintro e w2 ⟨p, b, rfl, ha, lp, lb, hb⟩
    have A2 := Lib.hid (And.intro ha (And.intro hb (And.intro lp lb)))
    clear ha lp lb hb
    go_wp2_with fail
    refine (rnew_at w2 n h3 (by omega)).mono ?_
    rintro e w3 ⟨q, r, rfl, hr, lq, lr, hb3⟩
    have S3 : Hid (Sb w w3 p b q r (newS n.toNat) (newS n.toNat) 0) := by
      have s1 := B1.out.size
      have s2 := A2.out.2.1.size
      have s3 := A2.out.2.2
      exact ⟨A2.out.1.up hb3, hr, up2 (up2 B1.out A2.out.2.1) hb3, by omega, by omega, by omega, by omega⟩
    obtain ⟨E0, hO⟩ := S3.out.open_any HT.out (by omega)
    have HO := Lib.hid hO
    clear hO S3 A2 hr lq lr hb3
    go_wp2_with fail
    refine HO.out.mono ?_
    rintro e w4 ⟨vj0, rfl, HK⟩
    clear HO
    go_wp2_with fail
    refine HK.out.mono ?_
    rintro e w5 ⟨vr0, rfl, hd⟩
    have D0 := Lib.hid hd
    clear hd HK
    go_wp2_with fail
    go_loopw [9, 10, 11, 12, 13] (fun vj vg vr vh vi wr => ∃ (i E : Int), -1 ≤ i ∧ i ≤ (len : Int) ∧ vi = .int .i64 i ∧ vg = .int .i64 E ∧ vh = .int .i64 E ∧ Hid (Ds w wr p b q r vj vr (20000 + 10000 * i))) (fun _ _ _ _ vi _ => ((len : Int) - intOf vi).toNat)
    case atStart => exact ⟨-1, E0, by omega, by omega, rfl, rfl, rfl, D0.out.more (by omega)⟩
    case round =>
      obtain ⟨i, E, hi0, hi1, rfl, rfl, rfl, D⟩ := hrel
      clear D0
      have hwi : IntKind.i64.wrap (i + 1) = i + 1 := IntWalk.i64_in _ (by omega)
      by_cases hin : i < (len : Int)
      · obtain ⟨M, hM⟩ : ∃ M : Int, M = 20000 + 10000 * i := ⟨_, rfl⟩
        have hM8 : M ≤ 700000 := by omega
        rw [← hM] at D
        have HM := Lib.hid hM
        clear hM
        go_upto_if 68 with fail
        go_cut [9, 10, 11, 12] (fun s9 s10 s11 s12 wx => ∃ E : Int, s10 = .int .i64 E ∧ s12 = .int .i64 E ∧ Hid (Ds w wx p b q r s9 s11 (M + 10000)))
        case first =>
          by_cases hneg : i = -1
          · have hge : ¬ (0 ≤ i) := by omega
            clear hneg
            go_wp2_with fail
            go_meet
            exact ⟨E, rfl, rfl, D.out.more (by omega)⟩
          have hge : 0 ≤ i := by omega
          obtain ⟨z, rfl⟩ : ∃ z : Nat, i = (z : Int) := ⟨i.toNat, by omega⟩
          have hzl : z < len := by omega
          have hbel := D.out.bel
          obtain ⟨lb, off, rfl, hlay, hn, hsz⟩ := (HL.out.up hbel) z hzl
          obtain ⟨d, nn, tt, y, hop⟩ : ∃ d nn tt y, L z = ⟨d, nn, tt, y⟩ := ⟨_, _, _, _, rfl⟩
          rw [hop] at hlay hn
          obtain ⟨k0, k1, k2, k3⟩ := hlay
          simp only at k0 k1 k2 k3 hn
          have hy4 : y.size ≤ 4000 := by have := HNN.out (by omega) z hzl; rw [hop] at this; exact this
          have HY : Hid (y.size ≤ maxLen) := by show y.size ≤ maxLen; unfold maxLen; omega
          have HB : Hid (y.size ≤ 1000000000) := by show y.size ≤ 1000000000; omega
          have HNx := Lib.hid hn
          obtain ⟨s, hFi, hDX⟩ := D.out.opX #[.int .i64 d, .int .i64 nn, .int .i64 tt, .string y]
          have HF := Lib.hid hFi
          have G2 := Lib.hid hDX
          obtain ⟨W2, hW2⟩ : ∃ W2, W2 = wr.alloc (.cells #[.int .i64 d, .int .i64 nn, .int .i64 tt, .string y] 39) := ⟨_, rfl⟩
          obtain ⟨X, hX⟩ : ∃ X, X = wr.heap.size := ⟨_, rfl⟩
          rw [← hW2, ← hX] at G2
          have HW2 := Lib.hid hW2
          have HX := Lib.hid hX
          clear hop hn hsz hy4 hFi hDX hW2 hX hbel hneg D
          by_cases hd0 : d = 0
          · have t0 : (d == 0) = true := by simp [hd0]
            have t1 : (d == 1) = false := by simp [hd0]
            have t2 : (d == 2) = false := by simp [hd0]
            have t5 : (d == 5) = false := by simp [hd0]
            have t3 : (d == 3) = false := by simp [hd0]
            clear hd0
            rcases G2.out with ⟨J, K, j, rfl, rfl, hbx⟩ | ⟨rfl, rfl, _⟩
            · have GB := Lib.hid hbx
              clear hbx G2
              go_wp2_with fail
              rw [← HW2.out, ← HX.out]
              clear HW2 HX
              go_region_held3 (fun w' => w'.cell? ⟨X, 3, none⟩ = some (.string y))
                ((change Sx3 _ X y; with_reducible (first | exact GB.out.drew.s3 | exact k1.out.s3 | exact k2.out.s3)))
                (first | (go_at_call 10; ((with_reducible refine (GB.out.drew.app HT.out (by omega) y HY.out).mono ?_); rintro e w6 ⟨rfl, g1⟩; have k1 := Lib.hid g1; clear g1)) | (go_at_call 11; ((with_reducible refine (k1.out.rapp HF.out (by omega) y HY.out).mono ?_); rintro e w7 ⟨rfl, g2⟩; have k2 := Lib.hid g2; clear g2)))
              all_goals
                go_wp2_with fail
                go_meet
                exact ⟨_, rfl, rfl, k2.out.ds⟩
            · obtain ⟨E2, hO⟩ := G2.out.sbx.sb.open_any HT.out (by omega)
              have HO := Lib.hid hO
              clear hO G2
              go_wp2_with fail
              rw [← HW2.out]
              clear HW2 HX

              refine HO.out.mono ?_
              rintro e w8 ⟨vj2, rfl, HK⟩
              clear HO
              go_wp2_with fail
              refine HK.out.mono ?_
              rintro e w9 ⟨vr2, rfl, hd⟩
              have D9 := Lib.hid hd
              clear hd HK
              go_wp2_with fail
              go_meet
              exact ⟨E2, rfl, rfl, D9.out⟩
          · by_cases hd1 : d = 1
            · have t0 : (d == 0) = false := by simp [hd0]
              have t1 : (d == 1) = true := by simp [hd1]
              have t2 : (d == 2) = false := by simp [hd1]
              have t5 : (d == 5) = false := by simp [hd1]
              have t3 : (d == 3) = false := by simp [hd1]
              clear hd1 hd0
              rcases G2.out with ⟨J, K, j, rfl, rfl, hbx⟩ | ⟨rfl, rfl, _⟩
              · have GB := Lib.hid hbx
                clear hbx G2
                go_wp2_with fail
                rw [← HW2.out, ← HX.out]
                clear HW2 HX
                go_region_held3 (fun w' => w'.cell? ⟨X, 3, none⟩ = some (.string y))
                  ((change Sx3 _ X y; with_reducible (first | exact GB.out.drew.s3 | exact k1.out.s3 | exact k2.out.s3)))
                  (first | (go_at_call 12; ((with_reducible refine (GB.out.drew.snap HT.out (by omega) y HY.out).mono ?_); rintro e w6 ⟨rfl, g1⟩; have k1 := Lib.hid g1; clear g1)) | (go_at_call 13; ((with_reducible refine (k1.out.rsnap HF.out (by omega) y HY.out).mono ?_); rintro e w7 ⟨rfl, g2⟩; have k2 := Lib.hid g2; clear g2)))
                all_goals
                  go_wp2_with fail
                  go_meet
                  exact ⟨_, rfl, rfl, k2.out.ds⟩
              · obtain ⟨E2, hO⟩ := G2.out.sbx.sb.open_any HT.out (by omega)
                have HO := Lib.hid hO
                clear hO G2
                go_wp2_with fail
                rw [← HW2.out]
                clear HW2 HX

                refine HO.out.mono ?_
                rintro e w8 ⟨vj2, rfl, HK⟩
                clear HO
                go_wp2_with fail
                refine HK.out.mono ?_
                rintro e w9 ⟨vr2, rfl, hd⟩
                have D9 := Lib.hid hd
                clear hd HK
                go_wp2_with fail
                go_meet
                exact ⟨E2, rfl, rfl, D9.out⟩
            · by_cases hd2 : d = 2
              · have t0 : (d == 0) = false := by simp [hd0]
                have t1 : (d == 1) = false := by simp [hd1]
                have t2 : (d == 2) = true := by simp [hd2]
                clear hd0 hd1 hd2
                go_wp2_with fail
                rw [← HW2.out, ← HX.out]
                clear HW2 HX
                refine (G2.out.fuse nn tt HNx.out).mono ?_
                rintro e w6 ⟨rfl, g⟩
                have G3 := Lib.hid g
                have c1 : w6.cell? ⟨X, 1, none⟩ = some (.int .i64 nn) := G3.out.box.cell 1
                have c2 : w6.cell? ⟨X, 2, none⟩ = some (.int .i64 tt) := G3.out.box.cell 2
                clear g G2
                go_wp2_with fail
                refine (G3.out.rfuse nn tt).mono ?_
                rintro e w7 ⟨rfl, g⟩
                have G4 := Lib.hid g
                clear g G3 c1 c2
                go_wp2_with fail
                go_meet
                exact ⟨E, rfl, rfl, G4.out.ds.more (by omega)⟩
              · by_cases hd5 : d = 5
                · have t0 : (d == 0) = false := by simp [hd0]
                  have t1 : (d == 1) = false := by simp [hd1]
                  have t2 : (d == 2) = false := by simp [hd2]
                  have t5 : (d == 5) = true := by simp [hd5]
                  clear hd0 hd1 hd2 hd5
                  go_wp2_with fail
                  rw [← HW2.out, ← HX.out]
                  clear HW2 HX
                  have G5 := Lib.hid G2.out.sbx
                  clear G2
                  go_region_held3 (fun w' => w'.cell? ⟨X, 1, none⟩ = some (.int .i64 nn) ∧ w'.cell? ⟨X, 3, none⟩ = some (.string y))
                    ((change Sx13 _ X nn y; with_reducible (first | exact G5.out.drew.s13 | exact k1.out.s13 | exact k2.out.s13 | exact k3.out.s13 | exact k4.out.s13)))
                    (first | (go_at_call 17; ((with_reducible refine (G5.out.drew.block y HB.out).mono ?_); rintro e w6 ⟨rfl, g1⟩; have k1 := Lib.hid g1; clear g1)) | (go_at_call 16; ((with_reducible refine (k1.out.write (by omega) nn (blkp y)).mono ?_); rintro e w7 ⟨rfl, g2⟩; have k2 := Lib.hid g2; clear g2)) | (go_at_call 17; ((with_reducible refine (k2.out.block y HB.out).mono ?_); rintro e w8 ⟨rfl, g3⟩; have k3 := Lib.hid g3; clear g3)) | (go_at_call 18; ((with_reducible refine (k3.out.rwrite HF.out (by omega) nn (blkp y)).mono ?_); rintro e w9 ⟨rfl, g4⟩; have k4 := Lib.hid g4; clear g4)))
                  all_goals
                    go_wp2_with fail
                    go_meet
                    exact ⟨_, rfl, rfl, k4.out.ds.more (by omega)⟩
                · by_cases hd3 : d = 3
                  · have t0 : (d == 0) = false := by simp [hd0]
                    have t1 : (d == 1) = false := by simp [hd1]
                    have t2 : (d == 2) = false := by simp [hd2]
                    have t5 : (d == 5) = false := by simp [hd5]
                    have t3 : (d == 3) = true := by simp [hd3]
                    clear hd0 hd1 hd2 hd5 hd3
                    go_wp2_with fail
                    rw [← HW2.out]
                    clear HW2 HX
                    refine G2.out.sbx.restart.mono ?_
                    rintro e w6 ⟨rfl, g⟩
                    have G3 := Lib.hid g
                    clear g G2
                    go_wp2_with fail
                    refine G3.out.rrestart.mono ?_
                    rintro e w7 ⟨rfl, g⟩
                    obtain ⟨E2, hO⟩ := g.sb.open_any HT.out (by omega)
                    have HO := Lib.hid hO
                    clear g hO G3
                    go_wp2_with fail

                    refine HO.out.mono ?_
                    rintro e w8 ⟨vj2, rfl, HK⟩
                    clear HO
                    go_wp2_with fail
                    refine HK.out.mono ?_
                    rintro e w9 ⟨vr2, rfl, hd⟩
                    have D9 := Lib.hid hd
                    clear hd HK
                    go_wp2_with fail
                    go_meet
                    exact ⟨E2, rfl, rfl, D9.out⟩
                  · have t0 : (d == 0) = false := by simp [hd0]
                    have t1 : (d == 1) = false := by simp [hd1]
                    have t2 : (d == 2) = false := by simp [hd2]
                    have t5 : (d == 5) = false := by simp [hd5]
                    have t3 : (d == 3) = false := by simp [hd3]
                    clear hd0 hd1 hd2 hd5 hd3
                    obtain ⟨E2, hO⟩ := G2.out.sbx.sb.open_any HT.out (by omega)
                    have HO := Lib.hid hO
                    clear hO G2
                    go_wp2_with fail
                    rw [← HW2.out]
                    clear HW2 HX

                    refine HO.out.mono ?_
                    rintro e w8 ⟨vj2, rfl, HK⟩
                    clear HO
                    go_wp2_with fail
                    refine HK.out.mono ?_
                    rintro e w9 ⟨vr2, rfl, hd⟩
                    have D9 := Lib.hid hd
                    clear hd HK
                    go_wp2_with fail
                    go_meet
                    exact ⟨E2, rfl, rfl, D9.out⟩
        case rest =>
          obtain ⟨E1, rfl, rfl, D1⟩ := hcut
          clear D
          have hEE : (E1 != E1) = false := by simp
          go_wp2_with fail
          refine D1.out.same.mono ?_
          rintro e w6 ⟨rfl, hd⟩
          have D6 := Lib.hid hd
          clear hd D1
          go_wp2_with fail
          go_roundw
          case rel => exact ⟨i + 1, E1, by omega, by omega, by go_num, rfl, rfl, D6.out.more (by rw [HM.out]; omega)⟩
          case measure => simp [intOf]; omega
      · go_wp2
        go_ret
        exact ⟨rfl, D.out.bel⟩
  · have h4' : 4000 < N := by omega
    go_wp2
    go_ret
    exact ⟨rfl, B1.out⟩
end Go.Proofs.YtjffcgimdffkoaaGreatDoor
