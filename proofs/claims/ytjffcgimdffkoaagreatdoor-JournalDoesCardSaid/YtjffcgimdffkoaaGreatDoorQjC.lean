/- The reference's journal: bytes are laid, walked. -/
import Derived.Test.YtjffcgimdffkoaaGreatDoorQjB
namespace Go.Proofs.YtjffcgimdffkoaaGreatDoor
open Go.RowKit

set_option maxRecDepth 100000 in
set_option maxHeartbeats 4000000 in
theorem jlay_any (w : World) (K q r h nx a e_ : Nat) (v : Value) (br : Bool) (x : ByteArray) (s : SS) (m : Int) (hK : Has w K 69 (rcs q h nx v br)) (hR : Rt w q r s) (hF : Fine s m) (hm : m ≤ 800000) (hx : x.size ≤ 40000) (hr : a + nb x.size ≤ e_) (he : e_ ≤ s.n) :
    Calls Tryz.prog 37 #[.pointer (some ⟨K, 0, none⟩), .string x, .int .i64 (a : Int), .int .i64 (e_ : Int)] w (RLay w K q r h nx (nb x.size) v (runW s (layW s.B x.data.toList a e_))) := by
  obtain ⟨l, hl⟩ : ∃ l, l = x.data.toList := ⟨_, rfl⟩
  have hlen : l.length = x.size := by rw [hl]; exact list_size x
  have HC := Lib.hid (rlay_any x false w hx)
  rw [← hl] at HC ⊢
  obtain ⟨n, hn⟩ : ∃ n, n = nb x.size := ⟨_, rfl⟩
  have n0 : 0 < n := by rw [hn]; exact nb_pos _
  have n1 : n ≤ 626 := by rw [hn]; exact nb_le hx
  have hnl : n = nb l.length := by rw [hlen]; exact hn
  rw [← hn] at HC hr ⊢
  have ee : e_ ≤ 4096 := Nat.le_trans he hF.hi
  have HN := Lib.hid (And.intro hnl he)
  have HK := Lib.hid hK
  have HR := Lib.hid hR
  have HF := Lib.hid hF
  clear hl hlen hn hnl hK hR hF hx he
  go_enter Tryz.func37, Tryz.ntmps37
  go_wp2_with fail
  refine HC.out.mono ?_
  rintro e w1 ⟨v1, rfl, hown, hb1⟩
  obtain ⟨g, c, rfl, hnc, hBg, hS⟩ := own_strs hown n0
  have HLy : Hid (Ly w w1 K q r g h nx v br (layX l false) s m) := by
    have h1 := HK.out.lt
    have hn := HR.out.nbox HK.out (by decide) (by decide)
    obtain ⟨cap, T, hh, _⟩ := HR.out.head
    obtain ⟨cs, hc, _⟩ := HR.out.row
    have h2 := hh.lt
    have h3 := hc.lt
    exact ⟨HR.out.up hb1, HF.out, HK.out.up hb1, hS, by omega, Turn.of _ hb1⟩
  obtain ⟨t, ht⟩ : ∃ t, t = a + n := ⟨_, rfl⟩
  have hw1 : IntKind.i64.wrap ((a : Int) + (n : Int)) = (t : Int) := by rw [ht, IntWalk.i64_in _ (by omega)]; omega
  have hge : ¬ ((e_ : Int) < (t : Int)) := by omega
  clear hown hb1 hS hnc hBg HC HK HR
  obtain ⟨E0, hE0⟩ : ∃ E0, E0 = endW s.B t e_ := ⟨_, rfl⟩
  have HE0 := Lib.hid hE0
  have Ht := Lib.hid ht
  clear hE0
  go_upto_if 49 with fail
  go_cut [49] (fun s49 wx => ∃ B : Bool, s49 = .bool B ∧ Hid (E0 = (if B = true then [(t, zs 64)] else []) ∧ Ly w wx K q r g h nx v br (layX l false) s m))
  case first =>
    by_cases h1 : t < e_
    · have h1' : (t : Int) < (e_ : Int) := by omega
      obtain ⟨cap, hC3⟩ := HLy.out.kc3 (i := t) (by have := HN.out.2; omega)
      obtain ⟨Y, hY⟩ : ∃ Y, Y = s.B t := ⟨_, rfl⟩
      obtain ⟨N, hNN⟩ : ∃ N, N = s.n := ⟨_, rfl⟩
      have hi1 : (t : Int) < (N : Int) := by have := HN.out.2; omega
      rw [← hY, ← hNN] at hC3
      have C3 := Lib.hid hC3
      unfold KC3 at hC3
      obtain ⟨k0, k1, k2⟩ := hC3
      obtain ⟨Z, hZ⟩ : ∃ Z, Z = zs 64 := ⟨_, rfl⟩
      have HZ : Hid (∀ W : World, Calls Tryz.prog 30 #[] W fun e w' => e = .returned (.string Z) ∧ Below W.heap.size W w') := fun W => by rw [hZ]; exact jzeros_any W
      by_cases h2 : Y = Z
      · have hq1 : (Y.toList == Z.toList) = true := by rw [strs_eq, decide_eq_true h2]
        have hq2 : (Y.toList != Z.toList) = false := by rw [bne, hq1]; rfl
        have HS0 : Hid (E0 = []) := by
          show E0 = []
          rw [HE0.out]
          unfold endW
          rw [if_neg (fun z => z.2 (by rw [← hY, h2, hZ]))]
        clear h1 h2 hY hNN hZ ht
        go_wp2_with fail
        go_region_held3 (fun w' => w'.cell? ⟨K, 0, none⟩ = some (.pointer (some ⟨q, 0, none⟩)) ∧ w'.cell? ⟨q, 0, none⟩ = some (.slice (some ⟨r, 0, none⟩) N cap) ∧ w'.cell? ⟨r, t, none⟩ = some (.string Y))
          ((change KC3 _ K q r N cap t Y; with_reducible (first | exact C3.out.drew | exact d3.out)))
          (first | (go_at_call 30; ((with_reducible refine (HZ.out _).mono ?_); rintro e w2 ⟨rfl, g1⟩; have d1 := Lib.hid (HLy.out.drew.up g1); have d3 := Lib.hid (C3.out.drew.up g1); clear g1)))
        all_goals
          clear k0 k1 k2
          go_wp2_with fail
          go_meet
          exact ⟨false, rfl, HS0.out, d1.out⟩
      · have hq1 : (Y.toList == Z.toList) = false := by rw [strs_eq, decide_eq_false h2]
        have hq2 : (Y.toList != Z.toList) = true := by rw [bne, hq1]; rfl
        have HS0 : Hid (E0 = [(t, zs 64)]) := by
          show E0 = [(t, zs 64)]
          rw [HE0.out]
          unfold endW
          rw [if_pos ⟨h1, fun z => h2 (by rw [hY, z, hZ])⟩]
        clear h1 h2 hY hNN hZ ht
        go_wp2_with fail
        go_region_held3 (fun w' => w'.cell? ⟨K, 0, none⟩ = some (.pointer (some ⟨q, 0, none⟩)) ∧ w'.cell? ⟨q, 0, none⟩ = some (.slice (some ⟨r, 0, none⟩) N cap) ∧ w'.cell? ⟨r, t, none⟩ = some (.string Y))
          ((change KC3 _ K q r N cap t Y; with_reducible (first | exact C3.out.drew | exact d3.out)))
          (first | (go_at_call 30; ((with_reducible refine (HZ.out _).mono ?_); rintro e w2 ⟨rfl, g1⟩; have d1 := Lib.hid (HLy.out.drew.up g1); have d3 := Lib.hid (C3.out.drew.up g1); clear g1)))
        all_goals
          clear k0 k1 k2
          go_wp2_with fail
          go_meet
          exact ⟨true, rfl, HS0.out, d1.out⟩
    · have hdec : decide (t < e_) = false := by simp; omega
      have HS0 : Hid (E0 = []) := by
        show E0 = []
        rw [HE0.out]
        unfold endW
        rw [if_neg (fun z => h1 z.1)]
      clear h1 ht
      go_wp2_with fail
      go_quiet (fail)
      go_wp2_with fail
      go_meet
      exact ⟨false, rfl, HS0.out, HLy.out.drewN _⟩
  case rest =>
    obtain ⟨B, rfl, HB⟩ := hcut
    clear HLy
    go_upto_if 49 with fail
    go_cut [11] (fun s11 wx => ∃ (S : SS) (E : Int), s11 = .int .i64 E ∧ Hid (runW s E0 = (S, E) ∧ Ly w wx K q r g h nx v br (layX l false) S (m + 1)))
    case first =>
      cases B
      · go_wp2_with fail
        go_meet
        exact ⟨s, 0, rfl, by rw [HB.out.1]; rfl, HB.out.2.more (by omega)⟩
      · obtain ⟨Z, hZ⟩ : ∃ Z, Z = zs 64 := ⟨_, rfl⟩
        have HZ : Hid (∀ W : World, Calls Tryz.prog 30 #[] W fun e w' => e = .returned (.string Z) ∧ Below W.heap.size W w') := fun W => by rw [hZ]; exact jzeros_any W
        obtain ⟨E, hE⟩ : ∃ E, E = wrE s (t : Int) Z := ⟨_, rfl⟩
        have HS0 : Hid (runW s E0 = (wrS s (t : Int) Z, E)) := by
          show runW s E0 = _
          rw [HB.out.1, if_pos rfl, hE, hZ]
          exact runW_one _ _ _
        have HE := Lib.hid hE
        clear hE hZ ht
        have c0 := HB.out.2.kc
        unfold KC at c0
        go_wp2_with fail
        go_region_held3 (fun w' => w'.cell? ⟨K, 0, none⟩ = some (.pointer (some ⟨q, 0, none⟩)))
          ((change KC _ K q; with_reducible (first | exact HB.out.2.drew.kc | exact d4.out.kc | exact d5.out.kc)))
          (first | (go_at_call 30; ((with_reducible refine (HZ.out _).mono ?_); rintro e w3 ⟨rfl, g1⟩; have d4 := Lib.hid (HB.out.2.drew.up g1); clear g1)) | (go_at_call 18; ((with_reducible refine (d4.out.write (by omega) (t : Int) Z).mono ?_); rw [← HE.out]; rintro e w4 ⟨rfl, g2⟩; have d5 := Lib.hid g2; clear g2)))
        all_goals
          go_wp2_with fail
          go_meet
          exact ⟨wrS s (t : Int) Z, E, rfl, HS0.out, d5.out⟩
    case rest =>
      obtain ⟨S, E, rfl, HS⟩ := hcut
      have HI0 : Hid (runW s (preL s.B l a e_ 0) = (S, E)) := by
        have := HS.out.1
        rw [HE0.out, Ht.out] at this
        show runW s (preL s.B l a e_ 0) = _
        unfold preL
        rw [List.take_zero, List.append_nil, ← HN.out.1]
        exact this
      clear HE0 Ht ht hge hw1
      go_wp2_with fail
      go_loopw [11, 12] (fun s11 s12 wr => ∃ (i : Nat) (S : SS) (E : Int), 1 ≤ i ∧ i ≤ n ∧ s11 = .int .i64 E ∧ s12 = .int .i64 (i : Int) ∧ Hid (runW s (preL s.B l a e_ (i - 1)) = (S, E) ∧ Ly w wr K q r g h nx v br (layX l false) S (m + i))) (fun _ s12 _ => n - (intOf s12).toNat)
      case atStart => exact ⟨1, S, E, Nat.le_refl _, n0, rfl, rfl, HI0.out, HS.out.2⟩
      case round =>
        obtain ⟨i, S, E, hi1, hin, rfl, rfl, HI⟩ := hrel
        clear HS HI0
        have c0 := HI.out.2.kc
        unfold KC at c0
        by_cases hE : E = 0
        · subst hE
          by_cases hlt : i < n
          · obtain ⟨y, hy1, hy2⟩ := lay_at (l := l) hi1 (by rw [← HN.out.1]; exact hlt)
            obtain ⟨t, ht⟩ : ∃ t, t = a + i := ⟨_, rfl⟩
            have hw1 : IntKind.i64.wrap ((a : Int) + (i : Int)) = (t : Int) := by rw [ht, IntWalk.i64_in _ (by omega)]; omega
            obtain ⟨E2, hE2⟩ : ∃ E2, E2 = wrE S (t : Int) y := ⟨_, rfl⟩
            have HR : Hid (runW s (preL s.B l a e_ i) = (wrS S (t : Int) y, E2)) := by
              have := runW_more HI.out.1 (a + 1 + (i - 1)) y
              rw [← preL_next hy2, show i - 1 + 1 = i by omega, show a + 1 + (i - 1) = t by omega] at this
              rw [hE2]
              exact this
            have c1 := (HI.out.2.kc2 hy1).2
            have HY := Lib.hid hy1
            have HE2 := Lib.hid hE2
            have hil : (i : Int) < (n : Int) := by omega
            clear hy1 hy2 ht hE2
            go_wp2_with fail
            go_region_held3 (fun w' => w'.cell? ⟨K, 0, none⟩ = some (.pointer (some ⟨q, 0, none⟩)) ∧ w'.cell? ⟨g, i, none⟩ = some (.string y))
              ((change KC2 _ K q g i y; with_reducible (first | exact HI.out.2.drew.kc2 HY.out | exact d1.out.kc2 HY.out)))
              (first | (go_at_call 18; ((with_reducible refine (HI.out.2.drew.write (by omega) (t : Int) y).mono ?_); rw [← HE2.out]; rintro e w4 ⟨rfl, g2⟩; have d1 := Lib.hid g2; clear g2)))
            all_goals
              clear c0 c1
              go_wp2_with fail
              go_roundw
              case rel => exact ⟨i + 1, wrS S (t : Int) y, E2, by omega, by omega, rfl, by go_num, HR.out, d1.out.more (by omega)⟩
              case measure => simp [intOf]; omega
          · have hn2 : ¬ ((i : Int) < (n : Int)) := by omega
            have HA : Hid (runW s (preL s.B l a e_ (nb l.length - 1)) = (S, 0)) := by
              have := HI.out.1
              rw [show i - 1 = nb l.length - 1 by have := HN.out.1; omega] at this
              exact this
            obtain ⟨F0, hF0⟩ : ∃ F0, F0 = first l false := ⟨_, rfl⟩
            have hy0 : (layX l false)[0]? = some F0 := by rw [hF0]; exact lay_first l false
            have c1 := (HI.out.2.kc2 hy0).2
            obtain ⟨X1, hX1⟩ : ∃ X1, X1 = ({ data := #[1] } : ByteArray) ++ F0.extract 1 F0.size := ⟨_, rfl⟩
            have hX1' : X1 = first l true := by rw [hX1, hF0]; exact first_turn l
            have z0 : F0.size = 64 := by rw [hF0]; exact first_size l false
            have z1 : (1 : Int) ≤ (F0.size : Int) := by omega
            have z2 : ¬ (9223372036854775807 < 1 + (F0.extract 1 F0.size).size) := by rw [ByteArray.size_extract]; omega
            have z3 : ¬ (9223372036854775807 < 1 + (F0.size - 1)) := by omega
            have z5 : F0.size ≤ 64 := by omega
            obtain ⟨E1, hE1⟩ : ∃ E1, E1 = wrE S (a : Int) F0 := ⟨_, rfl⟩
            obtain ⟨S1, hS1⟩ : ∃ S1, S1 = wrS S (a : Int) F0 := ⟨_, rfl⟩
            obtain ⟨E2, hE2⟩ : ∃ E2, E2 = wrE S1 (a : Int) (({ data := #[1] } : ByteArray) ++ F0.extract 1 F0.size) := ⟨_, rfl⟩
            have HR1 : Hid (E1 ≠ 0 → runW s (layW s.B l a e_) = (S1, E1)) := fun ne => by
              rw [preL_all, show [(a, first l false), (a, first l true)] = [(a, first l false)] ++ [(a, first l true)] from rfl, ← List.append_assoc, ← hF0]
              rw [runW_on (runW_more HA.out a F0), ← hS1, ← hE1, if_neg ne]
            have HR2 : Hid (E1 = 0 → runW s (layW s.B l a e_) = (wrS S1 (a : Int) (({ data := #[1] } : ByteArray) ++ F0.extract 1 F0.size), E2)) := fun eq => by
              rw [preL_all, show [(a, first l false), (a, first l true)] = [(a, first l false)] ++ [(a, first l true)] from rfl, ← List.append_assoc, ← hF0]
              rw [runW_on (runW_more HA.out a F0), ← hS1, ← hE1, if_pos eq, ← hX1', hX1, hE2]
              exact runW_one _ _ _
            have HY := Lib.hid hy0
            have HE1 := Lib.hid (And.intro hE1 hS1)
            have HE2 := Lib.hid hE2
            clear hF0 hy0 hX1 hX1' z0 hE1 hS1 hE2
            go_wp2_with fail
            go_region_held3 (fun w' => w'.cell? ⟨K, 0, none⟩ = some (.pointer (some ⟨q, 0, none⟩)) ∧ w'.cell? ⟨g, 0, none⟩ = some (.string F0))
              ((change KC2 _ K q g 0 F0; with_reducible (first | exact HI.out.2.drew.kc2 HY.out | exact d1.out.kc2 HY.out)))
              (first | (go_at_call 18; ((with_reducible refine (HI.out.2.drew.write (by omega) (a : Int) F0).mono ?_); rw [← HE1.out.1, ← HE1.out.2]; rintro e w4 ⟨rfl, g2⟩; have d1 := Lib.hid g2; clear g2)))
            all_goals
              clear c0 c1
              by_cases h1 : E1 = 0
              · have h10 : (E1 == 0) = true := by rw [h1]; rfl
                have HQ := Lib.hid (HR2.out h1)
                have c0 := d1.out.kc
                unfold KC at c0
                have c1 := (d1.out.kc2 HY.out).2
                clear h1
                go_wp2_with fail
                go_region_held3 (fun w' => w'.cell? ⟨K, 0, none⟩ = some (.pointer (some ⟨q, 0, none⟩)) ∧ w'.cell? ⟨g, 0, none⟩ = some (.string F0))
                  ((change KC2 _ K q g 0 F0; with_reducible (first | exact d1.out.drew.kc2 HY.out | exact d2.out.kc2 HY.out)))
                  (first | (go_at_call 18; ((with_reducible refine (d1.out.drew.write (by omega) (a : Int) (({ data := #[1] } : ByteArray) ++ F0.extract 1 F0.size)).mono ?_); rw [← HE2.out]; rintro e w5 ⟨rfl, g2⟩; have d2 := Lib.hid g2; clear g2)))
                all_goals
                  clear c0 c1
                  have e4 : World.cell? _ ⟨K, 4, none⟩ = some (.bool br) := d2.out.k.cell 4
                  have f4 := d2.out.k.free 4
                  go_wp2_with fail
                  go_ret2
                  exact d2.out.done n HQ.out _ rfl
              · have h10 : (E1 == 0) = false := by simpa using h1
                have h11 : (E1 != 0) = true := by simpa using h1
                have HQ := Lib.hid (HR1.out h1)
                have e4 : World.cell? _ ⟨K, 4, none⟩ = some (.bool br) := d1.out.k.cell 4
                have f4 := d1.out.k.free 4
                have H11 := Lib.hid h11
                clear h1
                go_wp2_with fail
                go_ret2
                exact d1.out.done n HQ.out true H11.out.symm
        · have h10 : (E == 0) = false := by simpa using hE
          have h11 : (E != 0) = true := by simpa using hE
          have HQ : Hid (runW s (layW s.B l a e_) = (S, E)) := by
            obtain ⟨r, hr⟩ := preL_more s.B l a e_ (i - 1)
            show runW s (layW s.B l a e_) = (S, E)
            rw [hr, runW_on HI.out.1, if_neg hE]
          have e4 : World.cell? _ ⟨K, 4, none⟩ = some (.bool br) := HI.out.2.k.cell 4
          have f4 := HI.out.2.k.free 4
          have H11 := Lib.hid h11
          clear hE c0
          by_cases hlt : i < n
          · have hil : (i : Int) < (n : Int) := by omega
            go_wp2_with fail
            go_ret2
            exact HI.out.2.done n HQ.out true H11.out.symm
          · have hil : ¬ ((i : Int) < (n : Int)) := by omega
            go_wp2_with fail
            go_ret2
            exact HI.out.2.done n HQ.out true H11.out.symm
end Go.Proofs.YtjffcgimdffkoaaGreatDoor
