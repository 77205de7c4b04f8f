/- JournalGoes: the core. -/
import Derived.Test.YtjffcgimdffkoaaDoorJnDo
namespace Go.Proofs.YtjffcgimdffkoaaDoor
open Go.RowKit

set_option maxRecDepth 100000 in
set_option maxHeartbeats 8000000 in
theorem goes_main (w : World) (n : Int) (a : Option Addr) (len cap : Nat) (L : Nat → OpJ) (a' : Option Addr) (len' cap' : Nat) (L' : Nat → OpJ) (hL : OpsJ w a len L) (hL' : OpsJ w a' len' L') (h3 : 3 ≤ n) (h60 : n ≤ 60) (hlen : len ≤ 30) (hlen' : len' ≤ 30) (hT : Tb w) :
    Calls Tryd.prog 4 #[.int .i64 n, .slice a len cap, .slice a' len' cap'] w fun e w' => e = .returned (.bool true) ∧ Below w.heap.size w w' := by
  obtain ⟨s0, ho, hn0, hp0⟩ := new_pow (n := n.toNat) (by omega) (by omega)
  have HO := Lib.hid ho
  have HN0 := Lib.hid hn0
  have HP0 := Lib.hid hp0
  have HT := Lib.hid hT
  have HL := Lib.hid hL
  have HL' := Lib.hid hL'
  have hn60 : ¬ (60 < n) := by omega
  have hl30 : ¬ (30 < (len : Int)) := by omega
  have hl30' : ¬ (30 < (len' : Int)) := by omega
  clear ho hn0 hp0 hT hL hL'
  go_enter Tryd.func4, Tryd.ntmps4
  go_wp2_with fail
  refine (jn_awake w HT.out).mono ?_
  rintro e w1 ⟨rfl, hb1⟩
  have B1 := Lib.hid hb1
  clear hb1
  go_wp2_with fail
  refine (size_any w1 a len cap L (HL.out.up B1.out) (by omega)).mono ?_
  rintro e w' ⟨N, rfl, ⟨hN0, hN1⟩, hN, rfl⟩
  have HNN := Lib.hid hN
  clear hN
  go_wp2_with fail
  refine (size_any w1 a' len' cap' L' (HL'.out.up B1.out) (by omega)).mono ?_
  rintro e w' ⟨N', rfl, ⟨hN0', hN1'⟩, hN', rfl⟩
  have HNN' := Lib.hid hN'
  clear hN'
  by_cases h4 : N + N' ≤ 4000
  · have h4' : ¬ (4000 < N + N') := by omega
    go_wp2_with fail
    refine (new_at w1 n h3 (by omega)).mono ?_
    rintro e w2 ⟨p, b, rfl, ha, lp, lb, hb⟩
    have S2 : Hid (Sto w w2 p b (newS n.toNat) 0) := ⟨ha, up2 B1.out hb, Nat.le_trans B1.out.size lp, Nat.le_trans B1.out.size lb⟩
    clear ha lp lb hb B1
    go_wp2_with fail
    refine (new_at w2 n h3 (by omega)).mono ?_
    rintro e w3 ⟨q, c, rfl, ha, lp, lb, hb⟩
    have hS3 : Sto w w3 p b (newS n.toNat) 0 := ⟨S2.out.at_.up hb, up2 S2.out.bel hb, S2.out.lo⟩
    have hS4 : Sto w w3 q c (newS n.toNat) 0 := ⟨ha, up2 S2.out.bel hb, Nat.le_trans S2.out.bel.size lp, Nat.le_trans S2.out.bel.size lb⟩
    have hap : ∀ x y, (x = p ∨ x = b) → (y = q ∨ y = c) → x ≠ y := by
      have := S2.out.at_.lt
      intro x y hx hy
      omega
    have HG := Lib.hid (gos_new hS3 hS4 hap HO.out HN0.out HP0.out HT.out)
    clear hS3 hS4 hap ha lp lb hb S2
    go_wp2_with fail
    refine HG.out.mono ?_
    rintro e w4 ⟨J, rfl, HK⟩
    clear HG
    go_wp2_with fail
    refine HK.out.mono ?_
    rintro e w5 ⟨K0, rfl, hg⟩
    have G0 := Lib.hid hg
    clear hg HK
    go_wp2_with fail
    go_loopw [13, 15] (fun vk vi wr => ∃ (i K : Nat) (j : JS), i ≤ len + len' ∧ vi = .int .i64 (i : Int) ∧ vk = .pointer (some ⟨K, 0, none⟩) ∧ Hid (Gos w wr J p b K q c n.toNat j j (10000 + 10000 * i) (10000 + 10000 * i))) (fun _ vi _ => len + len' - (intOf vi).toNat)
    case atStart => exact ⟨0, K0, _, Nat.zero_le _, rfl, rfl, G0⟩
    case round =>
      obtain ⟨i, K, j, hi, rfl, rfl, G⟩ := hrel
      clear G0
      have hwl : IntKind.i64.wrap ((len : Int) + (len' : Int)) = (len : Int) + (len' : Int) := by rw [IntKind.wrap_i64]; omega
      by_cases hin : i < len + len'
      · have hi60 : (i : Int) < 60 := by omega
        have hiS : (i : Int) < (len : Int) + (len' : Int) := by omega
        have hwi : IntKind.i64.wrap ((i : Int) + 1) = (i : Int) + 1 := IntWalk.i64_in _ (by omega)
        obtain ⟨M, hM⟩ : ∃ M : Int, M = 10000 + 10000 * (i : Int) := ⟨_, rfl⟩
        have hM8 : M ≤ 700000 := by omega
        rw [← hM] at G
        have HM := Lib.hid hM
        have GX := Lib.hid (G.out.opX #[.int .i64 0, .int .i64 0, .int .i64 0, .string ⟨#[]⟩])
        obtain ⟨W1, hW1⟩ : ∃ W1, W1 = wr.alloc (.cells #[.int .i64 0, .int .i64 0, .int .i64 0, .string ⟨#[]⟩] 39) := ⟨_, rfl⟩
        obtain ⟨X, hX⟩ : ∃ X, X = wr.heap.size := ⟨_, rfl⟩
        rw [← hW1, ← hX] at GX
        have HW1 := Lib.hid hW1
        have HX := Lib.hid hX
        clear hM hW1 hX
        go_upto_if 92 with fail
        rw [← HW1.out, ← HX.out]
        clear HW1 HX G
        go_cut [13, 16] (fun s13 s16 wx => ∃ (K X : Nat) (d nn tt : Int) (y : ByteArray), s13 = .pointer (some ⟨K, 0, none⟩) ∧ s16 = .pointer (some ⟨X, 0, none⟩) ∧ Hid (y.size ≤ 4000 ∧ GosX w wx J p b K q c n.toNat j j M M X #[.int .i64 d, .int .i64 nn, .int .i64 tt, .string y]))
        case first =>
          have e0 : W1.cell? ⟨X, 0, none⟩ = some (.int .i64 0) := GX.out.box.cell 0
          have e1 : W1.cell? ⟨X, 1, none⟩ = some (.int .i64 0) := GX.out.box.cell 1
          have e2 : W1.cell? ⟨X, 2, none⟩ = some (.int .i64 0) := GX.out.box.cell 2
          have e3 : W1.cell? ⟨X, 3, none⟩ = some (.string ⟨#[]⟩) := GX.out.box.cell 3
          have f0 := GX.out.box.free 0
          have f1 := GX.out.box.free 1
          have f2 := GX.out.box.free 2
          have f3 := GX.out.box.free 3
          have hbel := GX.out.gos.bel
          by_cases hlt : i < len
          · obtain ⟨lb, off, rfl, hlay, hn, hsz⟩ := (HL.out.up hbel) i hlt
            obtain ⟨d, nn, tt, x, hop⟩ : ∃ d nn tt x, L i = ⟨d, nn, tt, x⟩ := ⟨_, _, _, _, rfl⟩
            rw [hop] at hlay
            obtain ⟨k0, k1, k2, k3⟩ := hlay
            simp only at k0 k1 k2 k3
            have hx4 : x.size ≤ 4000 := by have := HNN.out (by omega) i hlt; rw [hop] at this; exact this
            have HX4 := Lib.hid hx4
            have hil : (i : Int) < (len : Int) := by omega
            clear hop hn hsz hx4 hbel
            go_wp2_with fail
            go_meet
            exact ⟨K, X, d, nn, tt, x, rfl, rfl, HX4.out, GX.out.put4 _ _ _ _⟩
          · obtain ⟨z, hz⟩ : ∃ z, i = len + z := ⟨i - len, by omega⟩
            obtain ⟨lb, off, rfl, hlay, hn, hsz⟩ := (HL'.out.up hbel) z (by omega)
            obtain ⟨d, nn, tt, x, hop⟩ : ∃ d nn tt x, L' z = ⟨d, nn, tt, x⟩ := ⟨_, _, _, _, rfl⟩
            rw [hop] at hlay
            obtain ⟨k0, k1, k2, k3⟩ := hlay
            simp only at k0 k1 k2 k3
            have hx4 : x.size ≤ 4000 := by have := HNN'.out (by omega) z (by omega); rw [hop] at this; exact this
            have HX4 := Lib.hid hx4
            have hil : ¬ ((i : Int) < (len : Int)) := by omega
            have hwz : IntKind.i64.wrap ((i : Int) - (len : Int)) = (z : Int) := by rw [hz]; rw [IntWalk.i64_in _ (by omega)]; omega
            have hzl : (z : Int) < (len' : Int) := by omega
            clear hop hn hsz hx4 hbel hz
            go_wp2_with fail
            have GY := Lib.hid (GX.out.put4 (.int .i64 d) (.int .i64 nn) (.int .i64 tt) (.string x))
            clear GX
            refine (GY.out.open_ HT.out (by omega)).mono ?_
            rintro e w6 ⟨K2, rfl, hg6⟩
            have G6 := Lib.hid hg6
            clear hg6 GY e0 e1 e2 e3 f0 f1 f2 f3 k0 k1 k2 k3
            go_wp2_with fail
            go_meet
            exact ⟨K2, X, d, nn, tt, x, rfl, rfl, HX4.out, G6.out⟩
        case rest =>
          obtain ⟨K1, X1, d, nn, tt, y, rfl, rfl, H1⟩ := hcut
          clear GX
          have HY : Hid (y.size ≤ maxLen) := by have := H1.out.1; show y.size ≤ maxLen; unfold maxLen; omega
          have d0 : World.cell? _ ⟨X1, 0, none⟩ = some (.int .i64 d) := H1.out.2.box.cell 0
          have d3 := H1.out.2.str3
          unfold Str3 at d3
          go_upto_if 113 with fail
          go_cut [17, 18] (fun s17 s18 wx => ∃ (r : Int) (j2 : JS), s17 = .int .i64 r ∧ s18 = .int .i64 r ∧ Hid (Gos w wx J p b K1 q c n.toNat j2 j2 (M + 10000) (M + 10000)))
          case first =>
            by_cases hd : d = 1
            · have hd1 : (d == 1) = true := by rw [hd]; rfl
              clear hd
              go_wp2_with fail
              go_region_held3 (fun w' => w'.cell? ⟨X1, 3, none⟩ = some (.string y))
                ((change Str3 _ X1 y; with_reducible (first | exact H1.out.2.drew.str3 | exact k1.out.str3 | exact k2.out.str3)))
                (first | (go_at_call 10; ((with_reducible refine (H1.out.2.drew.snap HT.out (by omega) y HY.out).mono ?_); rintro e w6 ⟨rfl, g1⟩; have k1 := Lib.hid g1.swap; clear g1)) | (go_at_call 10; ((with_reducible refine (k1.out.snap HT.out (by omega) y HY.out).mono ?_); rintro e w7 ⟨rfl, g2⟩; have k2 := Lib.hid g2; clear g2)))
              all_goals
                go_wp2_with fail
                go_meet
                exact ⟨_, _, rfl, rfl, k2.out.swap.gos⟩
            · have hd1 : (d == 1) = false := by simpa using hd
              clear hd
              go_wp2_with fail
              go_region_held3 (fun w' => w'.cell? ⟨X1, 3, none⟩ = some (.string y))
                ((change Str3 _ X1 y; with_reducible (first | exact H1.out.2.drew.str3 | exact k1.out.str3 | exact k2.out.str3)))
                (first | (go_at_call 11; ((with_reducible refine (H1.out.2.drew.app HT.out (by omega) y HY.out).mono ?_); rintro e w6 ⟨rfl, g1⟩; have k1 := Lib.hid g1.swap; clear g1)) | (go_at_call 11; ((with_reducible refine (k1.out.app HT.out (by omega) y HY.out).mono ?_); rintro e w7 ⟨rfl, g2⟩; have k2 := Lib.hid g2; clear g2)))
              all_goals
                go_wp2_with fail
                go_meet
                exact ⟨_, _, rfl, rfl, k2.out.swap.gos⟩
          case rest =>
            obtain ⟨r, j2, rfl, rfl, H2⟩ := hcut
            have hrr : (r != r) = false := by simp
            obtain ⟨ok, hn6⟩ := H2.out.ok
            obtain ⟨T, hTe⟩ : ∃ T, T = str (j2.L.headD []) := ⟨_, rfl⟩
            obtain ⟨xs, hxs⟩ : ∃ xs, xs = j2.L.tail.map str := ⟨_, rfl⟩
            obtain ⟨Z, hZ⟩ : ∃ Z, Z = (til n.toNat j2.half : Int) - (j2.next : Int) := ⟨_, rfl⟩
            have hxl : xs.length ≤ 100000 := by have := ok.len hn6; rw [hxs]; simp; omega
            have Ht1 := Lib.hid (fun (W : World) (q : Jvs W J p b n.toNat j2) => q.text T hTe)
            have Ht2 := Lib.hid (fun (W : World) (h : Jvs W K1 q c n.toNat j2) => h.text T hTe)
            have Hr1 := Lib.hid (fun (W : World) (q : Jvs W J p b n.toNat j2) => q.records ok hn6 xs hxs)
            have Hr2 := Lib.hid (fun (W : World) (h : Jvs W K1 q c n.toNat j2) => h.records ok hn6 xs hxs)
            have Hm1 := Lib.hid (fun (W : World) (q : Jvs W J p b n.toNat j2) => q.room ok hn6 Z hZ)
            have Hm2 := Lib.hid (fun (W : World) (h : Jvs W K1 q c n.toNat j2) => h.room ok hn6 Z hZ)
            clear ok hn6 hTe hxs hZ H1 d0 d3
            have hTT : (T.toList != T.toList) = false := by simp
            go_wp2_with fail
            refine (Ht1.out _ H2.out.jvs).mono ?_
            rintro e w6 ⟨rfl, rfl⟩
            go_wp2_with fail
            refine (Ht2.out _ H2.out.swap.jvs).mono ?_
            rintro e w6 ⟨rfl, rfl⟩
            go_wp2_with fail
            refine (Hr1.out _ H2.out.jvs).mono ?_
            rintro e w6 ⟨a6, c6, rfl, s6, l6, b6⟩
            have S6 := Lib.hid s6
            have H6 := Lib.hid (H2.out.up b6)
            clear s6 b6 H2 l6
            go_wp2_with fail
            refine (Hr2.out _ H6.out.swap.jvs).mono ?_
            rintro e w7 ⟨a7, c7, rfl, s7, l7, b7⟩
            have HS : Hid (Calls Tryd.prog 17 #[.slice a6 xs.length c6, .slice a7 xs.length c7] w7 fun e w' => e = .returned (.bool true) ∧ ∃ n, w' = w7.drewN n) := (same_on a6 a7 c6 c7 xs xs w7 (S6.out.up b7) s7 hxl).mono fun e w' h => ⟨by rw [h.1, decide_eq_true rfl], h.2⟩
            have H7 := Lib.hid (H6.out.up b7)
            clear s7 b7 l7 S6 H6 hxl
            go_wp2_with fail
            refine HS.out.mono ?_
            rintro e w8 ⟨rfl, n1, rfl⟩
            have H8 := Lib.hid (H7.out.drewN n1)
            clear H7 HS
            go_wp2_with fail
            refine (Hm1.out _ H8.out.jvs).mono ?_
            rintro e w9 ⟨rfl, n2, rfl⟩
            have h9 := H8.out.drewN n2
            rw [drewN_two] at h9
            have H9 := Lib.hid h9
            clear H8 h9
            go_wp2_with fail
            refine (Hm2.out _ H9.out.swap.jvs).mono ?_
            rintro e w9 ⟨rfl, n3, rfl⟩
            have h10 := H9.out.drewN n3
            rw [drewN_two] at h10
            have H10 := Lib.hid h10
            clear H9 h10
            have hZZ : (Z != Z) = false := by simp
            go_wp2_with fail
            go_roundw
            case rel => exact ⟨i + 1, K1, j2, by omega, by go_num, rfl, by rw [show (10000 : Int) + 10000 * ((i + 1 : Nat) : Int) = M + 10000 by rw [HM.out]; omega]; exact H10⟩
            case measure => simp [intOf]; omega
      · go_wp2
        go_ret
        exact ⟨rfl, G.out.bel⟩
  · have h4' : 4000 < N + N' := by omega
    go_wp2
    go_ret
    exact ⟨rfl, B1.out⟩
end Go.Proofs.YtjffcgimdffkoaaDoor
