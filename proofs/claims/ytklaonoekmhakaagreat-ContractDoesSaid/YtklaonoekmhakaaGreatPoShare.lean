/- Contracts: By. -/
import Derived.Test.YtklaonoekmhakaaGreatByMath
import Derived.Test.YtklaonoekmhakaaGreatSoAll
namespace Go.Proofs.YtklaonoekmhakaaGreat
open Go.RowKit

/-- a product's digits, in a block of its own -/
def MAt (w W : World) (sa va sb vb : Value) (g T : Nat) (L : List Int) : Prop :=
  PHead w W sa va sb vb ∧ w.heap.size + 3 ≤ g ∧ L.length = T ∧ DigOk L ∧ W.ownsRow (w.heap.size + 3) 3 1 (.slice (some ⟨g, 0, none⟩) T T) T (L.map (Value.int .i64))
theorem MAt.drewN {w W : World} {sa va sb vb : Value} {g T : Nat} {L : List Int} (h : MAt w W sa va sb vb g T L) (n : Nat) : MAt w (W.drewN n) sa va sb vb g T L :=
  ⟨h.1.drewN n, h.2.1, h.2.2.1, h.2.2.2.1, h.2.2.2.2⟩
theorem MAt.cell {w W : World} {sa va sb vb : Value} {g T : Nat} {L : List Int} (h : MAt w W sa va sb vb g T L) {j : Nat} (hj : j < T) : W.cell? ⟨g, j, none⟩ = some (.int .i64 (dg L j)) := by
  obtain ⟨_, _, h3, _, h5⟩ := h
  rw [h5.cellAt j (by omega), List.getElem?_map, List.getElem?_eq_getElem (by omega)]
  unfold dg; rw [getD_lt (by omega)]; rfl
theorem MAt.free {w W : World} {sa va sb vb : Value} {g T : Nat} {L : List Int} (h : MAt w W sa va sb vb g T L) (j : Nat) : W.frozen? ⟨g, j, none⟩ = false := h.2.2.2.2.frozenAt j
theorem MAt.put {w W : World} {sa va sb vb : Value} {g T : Nat} {L : List Int} (h : MAt w W sa va sb vb g T L) (j : Nat) {x : Int} (h0 : 0 ≤ x) (h9 : x ≤ 999) : MAt w (W.setCell ⟨g, j, none⟩ (.int .i64 x)) sa va sb vb g T (L.set j x) := by
  obtain ⟨h1, h2, h3, h4, h5⟩ := h
  refine ⟨h1.up ((Below.refl (w.heap.size + 3) W).setCell h2 _) (Nat.le_refl _), h2, by rw [List.length_set]; exact h3, digOk_set h4 h0 h9, ?_⟩
  rw [List.map_set]; exact (h5.stored j _).1
theorem MAt.own {w W : World} {sa va sb vb : Value} {g T : Nat} {L : List Int} (h : MAt w W sa va sb vb g T L) : Own W (w.heap.size + 3) (.slice (some ⟨g, 0, none⟩) T T) L := by
  unfold Own; rw [h.2.2.1]; exact h.2.2.2.2
theorem top_pos {l : List Int} {j : Nat} (hd : DigOk l) (hk : j + 1 ≤ l.length) (hne : dg l j ≠ 0) (hv : lval (l.take (j + 1)) = lval l) : lval l ≠ 0 := by
  have hlen : (l.take (j + 1)).length = j + 1 := by rw [List.length_take]; omega
  have h2 := lval_top (digOk_take hd (j + 1)) (.inr (by rw [hlen, Nat.add_sub_cancel, dg_take (by omega)]; exact hne)) (by intro e; rw [e] at hlen; simp at hlen)
  have h3 := pow_pos' ((l.take (j + 1)).length - 1)
  omega

set_option maxHeartbeats 400000 in
theorem made_gen (s : Int) (g cap : Nat) (l : List Int) (hs : lval l ≠ 0 → s = 1 ∨ s = -1) (w : World) (h : Dg w (some ⟨g, 0, none⟩) cap l) (hd : DigOk l) (hl : l.length ≤ 1000) :
    Calls Tryz.prog 112 #[.int .i64 s, .slice (some ⟨g, 0, none⟩) l.length cap] w (ExPost w (s * lval l)) := by
  have HD := Lib.hid h
  have HO := Lib.hid hd
  have HS := Lib.hid hs
  clear hs h hd
  go_enter Tryz.func112, Tryz.ntmps112
  go_wp2_with fail
  go_loop [1] (fun v => ∃ k : Nat, k ≤ l.length ∧ v = .slice (some ⟨g, 0, none⟩) k cap ∧ Hid (lval (l.take k) = lval l)) (fun v => match v with | .slice _ k _ => k | _ => 0)
  case atStart => exact ⟨l.length, Nat.le_refl _, rfl, Lib.hid (by rw [List.take_length])⟩
  case round =>
    obtain ⟨k, hk, rfl, HV⟩ := hrel
    by_cases hz : k = 0
    · subst hz
      go_wp2_with fail
      have hz0 : s * lval l = 0 := by rw [← HV.out]; simp [lval]
      exact bodyPost_ret (v := .agg #[.int .i64 0, .slice none 0 0]) (by simp [results, Tryz.results112, go_sem]) rfl
        ⟨0, none, 0, 0, rfl, ex_zero hz0 0, (Below.refl _ _).alloc (Nat.le_refl _) _⟩
    · obtain ⟨j, rfl⟩ : ∃ j, k = j + 1 := ⟨k - 1, by omega⟩
      clear hz
      obtain ⟨hcap, hcl⟩ : l.length ≤ cap ∧ w.cell? ⟨g, j, none⟩ = some (.int .i64 (dg l j)) := by
        rcases HD.out with ⟨h1, _⟩ | ⟨g', h1, h2, h3⟩
        · simp at h1
        · simp at h1; subst h1; exact ⟨h2, h3.2 j (by omega)⟩
      have hg : g < w.heap.size := World.block_lt_of_cell? (a := ⟨g, j, none⟩) _ hcl
      by_cases hx : dg l j = 0
      · have HX := Lib.hid (lval_take_zero hk hx)
        have hb : (dg l j == 0) = true := by rw [hx]; rfl
        clear hx
        go_wp2_with fail
        go_round
        case rel => exact ⟨j, by omega, rfl, Lib.hid (by rw [← HX.out]; exact HV.out)⟩
        case measure => simp
      · have HX := Lib.hid hx
        have hb : (dg l j == 0) = false := beq_eq_false_iff_ne.2 hx
        clear hx
        go_wp2_with fail
        have hB : Below w.heap.size w (w.alloc (.cells #[.int .i64 s, .slice (some ⟨g, 0, none⟩) (j + 1) cap] 135)) := (Below.refl _ _).alloc (Nat.le_refl _) _
        exact bodyPost_ret (v := .agg #[.int .i64 s, .slice (some ⟨g, 0, none⟩) (j + 1) cap]) (by simp [results, Tryz.results112, go_sem]) rfl
          ⟨s, _, j + 1, cap, rfl, (ex_made (HS.out (top_pos HO.out hk HX.out HV.out)) HD.out HO.out hk HX.out HV.out).below hB, hB⟩

theorem zeros_ok (T : Nat) : DigOk (List.replicate T 0) ∧ lval (List.replicate T 0) = 0 := by
  constructor
  · intro d hd; rw [List.mem_replicate] at hd; omega
  · induction T with
    | zero => rfl
    | succ T ih => rw [List.replicate_succ, lval, ih]; rfl

theorem m_start {w W0 w1 : World} {sa va sb vb : Value} {T : Nat} (h : PHead w W0 sa va sb vb) (h1 : w1.ownsRow (w.heap.size + 3) 3 1 (.slice (some ⟨W0.heap.size, 0, none⟩) T T) T (madeCells #[Value.int .i64 0] T).toList) (h2 : W0.grownBy w1 none) :
    MAt w w1 sa va sb vb W0.heap.size T (List.replicate T 0) := by
  have hb : Below (w.heap.size + 3) W0 w1 := (Below.refl _ _).grown h2 h.2.1 (fun k hk => by simp at hk)
  refine ⟨h.up hb (Nat.le_refl _), h.2.1, by simp, (zeros_ok T).1, ?_⟩
  rw [List.map_replicate]
  rw [toList_madeCells_one] at h1
  exact h1
theorem MAt.b {w W : World} {sa va sb vb : Value} {g T : Nat} {L : List Int} (h : MAt w W sa va sb vb g T L) : Below w.heap.size w W := h.1.1
theorem dg_get {W : World} {a : Option Addr} {cap : Nat} {l : List Int} (h : Dg W a cap l) {j : Nat} (hj : j < l.length) : ∃ g, a = some ⟨g, 0, none⟩ ∧ W.cell? ⟨g, j, none⟩ = some (.int .i64 (dg l j)) := by
  rcases h with ⟨_, q2⟩ | ⟨g, q1, _, _, q4⟩
  · rw [q2] at hj; simp at hj
  · exact ⟨g, q1, q4 j hj⟩
theorem mul999 {x y : Int} (h1 : 0 ≤ x) (h2 : x ≤ 999) (h3 : 0 ≤ y) (h4 : y ≤ 999) : 0 ≤ x * y ∧ x * y ≤ 998001 := by
  have a1 : 0 ≤ x * y := Int.mul_nonneg h1 h3
  have a2 : x * y ≤ 999 * y := Int.mul_le_mul_of_nonneg_right h2 h3
  omega

set_option maxRecDepth 100000 in
set_option maxHeartbeats 1600000 in
theorem by_raw (s sb p : Int) (a b : Option Addr) (lena lenb capa capb : Nat) (la lb : List Int) (w : World) (hw : wrap64 (s * sb) = p) (hs : lval la * lval lb ≠ 0 → p = 1 ∨ p = -1)
    (ha : Dg w a capa la) (hb : Dg w b capb lb) (oa : DigOk la) (ob : DigOk lb) (ea : la.length = lena) (eb : lb.length = lenb) (h1 : lena ≤ 200) (h2 : lenb ≤ 200) :
    Calls Tryz.prog 115 #[.agg #[.int .i64 s, .slice a lena capa], .agg #[.int .i64 sb, .slice b lenb capb]] w (ExPost w (p * (lval la * lval lb))) := by
  obtain ⟨i0, hi, hz0, hz1, hz2⟩ := info_parts Tryz.infoInt
  have HA := Lib.hid ha; have HB := Lib.hid hb; have OA := Lib.hid oa; have OB := Lib.hid ob; have EA := Lib.hid ea; have EB := Lib.hid eb; have HS := Lib.hid hs; have HW := Lib.hid hw
  clear ha hb oa ob ea eb hs hw
  have HP := Lib.hid (phead_start w (.int .i64 s) (.slice a lena capa) (.int .i64 sb) (.slice b lenb capb))
  go_enter Tryz.func115, Tryz.ntmps115
  go_upto_region 1 with fail
  obtain ⟨W0, hW0⟩ : ∃ W0, W0 = (((w.alloc (.cells #[.int .i64 s, .slice a lena capa] 135)).alloc (.cells #[.int .i64 sb, .slice b lenb capb] 135)).alloc (.cells #[.int .i64 0, .slice none 0 0] 135)) := ⟨_, rfl⟩
  rw [← hW0] at HP
  rw [← hW0]
  clear hW0
  obtain ⟨_, hz3, c0, c1, c2, c3, _⟩ := HP.out
  go_wp2_with (at_make; refine wpList_make_full _ rfl _ _ 49 rfl (w.heap.size + 3) 3 i0 (.int .i64 0) 1 Tryz.underlying49 hi hz0 hz1 .i64 .i64 _ _ (lena + lenb + 2) rfl rfl ?c1 ?c2 ?c3 ?c4 ?c5 ?_)
  case c1 => omega
  case c2 => omega
  case c3 => rw [hz2]; omega
  case c4 => unfold maxLen; omega
  case c5 => exact hz3
  intro w1 hown hgrow
  have HM0 := Lib.hid (m_start HP.out hown hgrow)
  clear hown hgrow c0 c1 c2 c3 hz3 HP
  obtain ⟨g, hg⟩ : ∃ g, g = W0.heap.size := ⟨_, rfl⟩
  rw [← hg] at HM0
  rw [← hg]
  clear hg
  obtain ⟨T, hT⟩ : ∃ T, T = lena + lenb + 2 := ⟨_, rfl⟩
  rw [← hT] at HM0
  rw [← hT]
  have hT1 : lena + lenb + 2 ≤ T := by omega
  have hT2 : T ≤ lena + lenb + 2 := by omega
  clear hT
  go_wp2_with fail
  go_loopw [6, 7, 8, 9, 10, 11] (fun i _ _ _ _ _ W => ∃ ii : Nat, ii ≤ lena ∧ i = .int .i64 ii ∧ ∃ L, MAt w W (.int .i64 s) (.slice a lena capa) (.int .i64 sb) (.slice b lenb capb) g T L ∧ lval L = mulTo la lb ii 0) (fun i _ _ _ _ _ _ => lena - (intOf i).toNat)
  case atStart => exact ⟨0, by omega, rfl, _, HM0.out, by rw [(zeros_ok T).2]; simp [mulTo, vTo]⟩
  case round =>
    obtain ⟨ii, hii, rfl, L, hM, hv⟩ := hrel
    have HM := Lib.hid hM; have HV := Lib.hid hv
    obtain ⟨_, hz3, c0, c1, c2, c3, _⟩ := hM.1
    clear hM hv
    by_cases hlt : ii < lena
    · go_wp2_with fail
      obtain ⟨wo, rfl⟩ : ∃ wo : World, wo = wr := ⟨_, rfl⟩
      clear c0 c1 c2 c3 hz3
      go_loopw [7, 8, 9, 10, 11] (fun k _ _ _ _ W => ∃ kk : Nat, kk ≤ lenb ∧ k = .int .i64 kk ∧ ∃ L, MAt w W (.int .i64 s) (.slice a lena capa) (.int .i64 sb) (.slice b lenb capb) g T L ∧ lval L = mulTo la lb ii kk) (fun k _ _ _ _ _ => lenb - (intOf k).toNat)
      case atStart => exact ⟨0, by omega, rfl, L, HM.out, HV.out⟩
      case round =>
        obtain ⟨kk, hkk, rfl, L2, hM2, hv2⟩ := hrel
        have HM2 := Lib.hid hM2; have HV2 := Lib.hid hv2
        obtain ⟨_, hz3, c0, c1, c2, c3, _⟩ := hM2.1
        clear hM2 hv2
        by_cases hlk : kk < lenb
        · obtain ⟨ga, rfl, hca⟩ := dg_get (HA.out.below HM2.out.b) (j := ii) (by have := EA.out; omega)
          obtain ⟨gb, rfl, hcb⟩ := dg_get (HB.out.below HM2.out.b) (j := kk) (by have := EB.out; omega)
          have hco := HM2.out.cell (j := ii + kk) (by omega)
          have hfo := HM2.out.free (ii + kk)
          obtain ⟨da0, da9⟩ := dg_ok OA.out ii
          obtain ⟨db0, db9⟩ := dg_ok OB.out kk
          obtain ⟨dl0, dl9⟩ := dg_ok HM2.out.2.2.2.1 (ii + kk)
          obtain ⟨pm0, pm9⟩ := mul999 da0 da9 db0 db9
          have HPC := Lib.hid (put_carry (l := L2) (j := ii + kk) (p := dg la ii * dg lb kk) (t := mulTo la lb ii (kk + 1)) (by have := HM2.out.2.2.1; omega) (by rw [HV2.out, mulTo_step]))
          have HLT := Lib.hid (mulTo_lt OA.out OB.out (i := ii) (k := kk + 1) (by have := EA.out; omega) (by have := EB.out; omega))
          have i0' : (0 : Int) ≤ (ii : Int) := by omega
          have i1' : (ii : Int) < (lena : Int) := by omega
          have k0' : (0 : Int) ≤ (kk : Int) := by omega
          have k1' : (kk : Int) < (lenb : Int) := by omega
          have s0' : (0 : Int) ≤ (ii : Int) + (kk : Int) := by omega
          have s1' : (ii : Int) + (kk : Int) < (T : Int) := by omega
          have wm : IntKind.i64.wrap (dg la ii * dg lb kk) = dg la ii * dg lb kk := wrap_i (by omega) (by omega)
          go_upto_region 8 with fail
          have ws : IntKind.i64.wrap ((ii : Int) + (kk : Int)) = (ii : Int) + (kk : Int) := wrap_i (by omega) (by omega)
          have wt : ((ii : Int) + (kk : Int)).toNat = ii + kk := by omega
          have wn : IntKind.i64.wrap (dg L2 (ii + kk) + dg la ii * dg lb kk) = dg L2 (ii + kk) + dg la ii * dg lb kk := wrap_i (by omega) (by omega)
          go_quiet (fail)
          clear ws wt wn wm
          have HM3 := Lib.hid (HM2.out.drewN nq)
          obtain ⟨Wq, hWq⟩ : ∃ Wq, Wq = wr.drewN nq := ⟨_, rfl⟩
          rw [← hWq] at HM3
          rw [← hWq]
          clear hWq c0 c1 c2 c3 hz3 hca hcb hco hfo HM2 HV2
          have n0 : 0 ≤ dg L2 (ii + kk) + dg la ii * dg lb kk := by omega
          have n9 : dg L2 (ii + kk) + dg la ii * dg lb kk ≤ 999000 := by omega
          clear pm0 pm9 da0 da9 db0 db9 dl0 dl9
          generalize dg L2 (ii + kk) + dg la ii * dg lb kk = D at *
          have hco := HM3.out.cell (j := ii + kk) (by omega)
          have hfo := HM3.out.free (ii + kk)
          have HM4 := Lib.hid (HM3.out.put (ii + kk) (x := D % 1000) (by omega) (by omega))
          go_wp2_with fail
          obtain ⟨We, hWe⟩ : ∃ We, We = Wq.setCell ⟨g, ii + kk, none⟩ (.int .i64 (D % 1000)) := ⟨_, rfl⟩
          rw [← hWe] at HM4
          rw [← hWe]
          clear hWe hco hfo HM3
          go_loopw [9, 10, 11] (fun j o _ W => ∃ (jj : Nat) (ov : Int), jj ≤ T ∧ 0 ≤ ov ∧ ov ≤ 999 ∧ j = .int .i64 jj ∧ o = .int .i64 ov ∧ ∃ L, MAt w W (.int .i64 s) (.slice (some ⟨ga, 0, none⟩) lena capa) (.int .i64 sb) (.slice (some ⟨gb, 0, none⟩) lenb capb) g T L ∧ lval L + ov * 1000 ^ jj = mulTo la lb ii (kk + 1)) (fun j _ _ _ => T + 1 - (intOf j).toNat)
          case atStart => exact ⟨ii + kk + 1, D / 1000, by omega, by omega, by omega, by go_num, rfl, _, HM4.out, HPC.out⟩
          case round =>
            obtain ⟨jj, ov, hjj, v0, v9, rfl, rfl, L5, hM5, hv5⟩ := hrel
            have HM5 := Lib.hid hM5; have HV5 := Lib.hid hv5
            clear hM5 hv5
            by_cases hov : ov = 0
            · subst hov
              have HV6 : Hid (lval L5 = mulTo la lb ii (kk + 1)) := by show _ = _; rw [← HV5.out]; omega
              go_wp2_with fail
              go_roundw
              case rel => exact ⟨kk + 1, by omega, by go_num, L5, HM5.out, HV6.out⟩
              case measure => simp [intOf]; omega
            · have hov1 : 1 ≤ ov := by omega
              have hin := carry_in HM5.out.2.2.2.1 hov1 HLT.out HV5.out
              have hjT : jj < T := by have := EA.out; have := EB.out; omega
              have hco := HM5.out.cell (j := jj) hjT
              have hfo := HM5.out.free jj
              obtain ⟨dl0, dl9⟩ := dg_ok HM5.out.2.2.2.1 jj
              have HPC2 := Lib.hid (put_carry (l := L5) (j := jj) (p := ov) (by have := HM5.out.2.2.1; omega) HV5.out)
              have HM6 := Lib.hid (HM5.out.put jj (x := (dg L5 jj + ov) % 1000) (by omega) (by omega))
              have j0' : (0 : Int) ≤ (jj : Int) := by omega
              have j1' : (jj : Int) < (T : Int) := by omega
              clear hov hin HV5 HM5
              go_wp2_with fail
              go_roundw
              case rel => exact ⟨jj + 1, (dg L5 jj + ov) / 1000, by omega, by omega, by omega, by go_num, rfl, _, HM6.out, HPC2.out⟩
              case measure => simp [intOf]; omega
        · obtain rfl : kk = lenb := by omega
          have HV3 : Hid (lval L2 = mulTo la lb (ii + 1) 0) := by show _ = _; rw [HV2.out, ← mulTo_row, EB.out]
          go_wp2_with fail
          go_roundw
          case rel => exact ⟨ii + 1, by omega, by go_num, L2, HM2.out, HV3.out⟩
          case measure => simp [intOf]; omega
    · obtain rfl : ii = lena := by omega
      have HV3 : Hid (lval L = lval la * lval lb) := by show _ = _; rw [HV.out, ← EA.out, mulTo_end]
      obtain ⟨hl1, hD⟩ := own_dg HM.out.own
      have HC := Lib.hid (made_gen p g T L (by rw [HV3.out]; exact HS.out) wr hD HM.out.2.2.2.1 (by omega))
      rw [← hl1, HV3.out] at HC
      clear hD hl1
      have hwp := HW.out
      go_wp2_with fail
      clear hwp
      refine HC.out.mono ?_
      rintro e w5 ⟨s', a2, len2, cap2, rfl, hE, hb1⟩
      have HE1 := Lib.hid hE
      have HP1 := Lib.hid (HM.out.1.up hb1 HM.out.1.2.1)
      clear hE hb1 c0 c1 c2 c3
      obtain ⟨d0, d1, g0, g1⟩ := HP1.out.2.2.2.2.2.2.1
      go_wp2_with fail
      exact bodyPost_ret (v := .agg #[.int .i64 s', .slice a2 len2 cap2]) (by simp [results, Tryz.results115, go_sem, d0, d1]) rfl
        ⟨s', a2, len2, cap2, rfl, ex_store HP1.out.2.2.2.2.2.2 HE1.out _ _, (HP1.out.1.setCell (by show w.heap.size ≤ w.heap.size + 1 + 1; omega) _).setCell (by show w.heap.size ≤ w.heap.size + 1 + 1; omega) _⟩

theorem by_ex (s sb n m : Int) (a b : Option Addr) (lena lenb capa capb : Nat) (w : World) (ha : Ex w s a lena capa n) (hb : Ex w sb b lenb capb m) (hn : Small n) (hm : Small m) :
    Calls Tryz.prog 115 #[.agg #[.int .i64 s, .slice a lena capa], .agg #[.int .i64 sb, .slice b lenb capb]] w (ExPost w (n * m)) := by
  have l1 := ex_len ha hn
  have l2 := ex_len hb hm
  have ga := ex_sign ha
  have gb := ex_sign hb
  obtain ⟨_, la, e1, d1, o1, _, v1⟩ := ha
  obtain ⟨_, lb, e2, d2, o2, _, v2⟩ := hb
  have hsp : s * sb = 0 ∨ s * sb = 1 ∨ s * sb = -1 := by
    rcases ga with ⟨rfl, _⟩ | ⟨rfl | rfl, _⟩ <;> rcases gb with ⟨rfl, _⟩ | ⟨rfl | rfl, _⟩ <;> simp
  have hw : wrap64 (s * sb) = s * sb := IntWalk.wrap64_in _ ⟨by omega, by omega⟩
  have hnm : n * m = s * sb * (lval la * lval lb) := by
    rcases ga with ⟨rfl, rfl⟩ | ⟨_, en⟩
    · simp
    · rcases gb with ⟨rfl, rfl⟩ | ⟨_, em⟩
      · simp
      · rw [← v1] at en; rw [← v2] at em
        rw [en, em, Int.mul_assoc, Int.mul_assoc]
        congr 1
        rw [← Int.mul_assoc, ← Int.mul_assoc, Int.mul_comm (lval la)]
  rw [hnm]
  refine by_raw s sb (s * sb) a b lena lenb capa capb la lb w hw ?_ d1 d2 o1 o2 e1 e2 l1 l2
  intro hne
  rcases ga with ⟨_, rfl⟩ | ⟨hs, _⟩
  · simp at v1; rw [v1] at hne; simp at hne
  · rcases gb with ⟨_, rfl⟩ | ⟨hs2, _⟩
    · simp at v2; rw [v2] at hne; simp at hne
    · rcases hs with rfl | rfl <;> rcases hs2 with rfl | rfl <;> simp
end Go.Proofs.YtklaonoekmhakaaGreat

namespace Go.Proofs.YtklaonoekmhakaaGreat
open Go.RowKit

set_option maxHeartbeats 400000 in
theorem next_any (W : World) (ab pb b n k : Nat) (h : Nat → Int) (hk : k < n) (hn : n ≤ 1000000) (ha : W.cell? ⟨ab, 0, none⟩ = some (.int .i64 ((k : Int) - 1))) (hf : W.frozen? ⟨ab, 0, none⟩ = false)
    (hp : W.cell? ⟨pb, 0, none⟩ = some (.slice (some ⟨b, 0, none⟩) n n)) (hc : W.cell? ⟨b, k, none⟩ = some (.int .i64 (h k))) (e1 : pb ≠ ab) (e2 : b ≠ ab) :
    Calls Tryz.prog 155 #[.pointer (some ⟨ab, 0, none⟩), .pointer (some ⟨pb, 0, none⟩)] W fun e w' => e = .returned (.int .i64 (h k)) ∧ w' = W.setCell ⟨ab, 0, none⟩ (.int .i64 k) := by
  have i1 : IntKind.i64.wrap ((k : Int) - 1 + 1) = (k : Int) := by rw [IntKind.wrap_i64]; omega
  have i2 : IntKind.i64.wrap (k : Int) = (k : Int) := by rw [IntKind.wrap_i64]; omega
  have c1 : (W.setCell ⟨ab, 0, none⟩ (.int .i64 k)).cell? ⟨ab, 0, none⟩ = some (.int .i64 k) := World.cell?_setCell_same' _ _ _ (by rw [ha]; rfl)
  have c2 : (W.setCell ⟨ab, 0, none⟩ (.int .i64 k)).cell? ⟨pb, 0, none⟩ = some (.slice (some ⟨b, 0, none⟩) n n) := by rw [World.cell?_setCell_other _ _ _ _ (by intro q; injection q; omega)]; exact hp
  have c3 : (W.setCell ⟨ab, 0, none⟩ (.int .i64 k)).cell? ⟨b, k, none⟩ = some (.int .i64 (h k)) := by rw [World.cell?_setCell_other _ _ _ _ (by intro q; injection q; omega)]; exact hc
  clear e1 e2 hp hc
  go_enter Tryz.func155, Tryz.ntmps155
  go_wp2_with fail
  go_ret
  exact ⟨rfl, rfl⟩

/-- byRest's blocks: the rests' box, the places, their box -/
structure ByAt (w W : World) (g n rb b pb : Nat) (K f : Nat → Int) : Prop where
  bel : Below w.heap.size w W
  rests : Rests W rb g n K
  ints : Ints W b n f
  box : W.cell? ⟨pb, 0, none⟩ = some (.slice (some ⟨b, 0, none⟩) n n)
  r0 : w.heap.size ≤ rb
  b0 : w.heap.size ≤ b
  p0 : w.heap.size ≤ pb
  g0 : g < w.heap.size
  rb' : rb ≠ b
  pb' : pb ≠ b

theorem made_ints {w1 : World} {base g n : Nat} {e : TypeId} (h : w1.ownsRow base e 1 (.slice (some ⟨g, 0, none⟩) n n) n (madeCells #[Value.int .i64 0] n).toList) : Ints w1 g n (fun _ => 0) := by
  rw [toList_madeCells_one] at h
  intro t ht
  refine ⟨?_, h.frozenAt t⟩
  rw [h.cellAt t (by simpa using ht)]
  rw [List.getElem?_replicate]; simp; omega
theorem ByAt.put {w W : World} {g n rb b pb : Nat} {K f : Nat → Int} (h : ByAt w W g n rb b pb K f) {k : Nat} (hk : k < n) (v : Int) : ByAt w (W.setCell ⟨b, k, none⟩ (.int .i64 v)) g n rb b pb K (fun s => if s = k then v else f s) := by
  have q : But b W (W.setCell ⟨b, k, none⟩ (.int .i64 v)) := (But.refl b W).set k _
  have hg : g ≠ b := by have := h.g0; have := h.b0; omega
  exact ⟨h.bel.setCell h.b0 _, h.rests.but q h.rb' hg, ints_set h.ints hk v, (q.cell (p := ⟨pb, 0, none⟩) h.pb').trans h.box, h.r0, h.b0, h.p0, h.g0, h.rb', h.pb'⟩
theorem ints_same {W : World} {b n : Nat} {f g : Nat → Int} (h : Ints W b n f) (e : ∀ t, t < n → g t = f t) : Ints W b n g := fun t ht => by rw [e t ht]; exact h t ht

/-- what byRest leaves: the closure's own blocks -/
def ByPost (w : World) (n : Nat) (K : Nat → Int) (e : Ending) (w' : World) : Prop :=
  ∃ ab pb b h, e = .returned (.func (.func 155) #[] #[.pointer (some ⟨ab, 0, none⟩), .pointer (some ⟨pb, 0, none⟩)]) ∧ Below w.heap.size w w' ∧ w.heap.size ≤ ab ∧ w.heap.size ≤ pb ∧ w.heap.size ≤ b ∧ pb ≠ ab ∧ b ≠ ab ∧
    w'.cell? ⟨ab, 0, none⟩ = some (.int .i64 (-1)) ∧ w'.frozen? ⟨ab, 0, none⟩ = false ∧ w'.cell? ⟨pb, 0, none⟩ = some (.slice (some ⟨b, 0, none⟩) n n) ∧ Ints w' b n h ∧ Piece n K h 0 n ∧ SameSum n h

set_option maxRecDepth 100000 in
set_option maxHeartbeats 1000000 in
theorem byRest_any (w : World) (g n : Nat) (K : Nat → Int) (h0 : 0 < n) (hn : n ≤ 64) (hg : g < w.heap.size) (hc : ∀ t, t < n → w.cell? ⟨g, t, none⟩ = some (.int .i64 (K t))) :
    Calls Tryz.prog 146 #[.slice (some ⟨g, 0, none⟩) n n] w (ByPost w n K) := by
  obtain ⟨i0, hi, hz0, hz1, hz2⟩ := info_parts Tryz.infoInt
  have HC := Lib.hid hc
  clear hc
  go_enter Tryz.func146, Tryz.ntmps146
  go_upto_region 1 with fail
  obtain ⟨W0, hW0⟩ : ∃ W0, W0 = w.alloc (.cells #[.slice (some ⟨g, 0, none⟩) n n] 64) := ⟨_, rfl⟩
  have HR : Hid (Rests W0 w.heap.size g n K) := by
    rw [hW0]
    exact ⟨by simp [go_sem], fun t ht => kcell ((Below.refl _ _).alloc (Nat.le_refl _) _) (HC.out t ht)⟩
  have HB : Hid (Below w.heap.size w W0) := by rw [hW0]; exact (Below.refl _ _).alloc (Nat.le_refl _) _
  have hs : w.heap.size + 1 = W0.heap.size := by rw [hW0]; simp
  rw [← hW0]
  clear hW0
  have c0 := HR.out.1
  obtain ⟨rb, hrb⟩ : ∃ rb, rb = w.heap.size := ⟨_, rfl⟩
  rw [← hrb] at HR c0 ⊢
  have hrl : rb < W0.heap.size := by omega
  have HRB := Lib.hid hrb
  have HSZ := Lib.hid hs
  clear hrb hs
  go_wp2_with (at_make; refine wpList_make_full _ rfl _ _ 49 rfl W0.heap.size 3 i0 (.int .i64 0) 1 Tryz.underlying49 hi hz0 hz1 .i64 .i64 _ _ n rfl rfl ?c1 ?c2 ?c3 ?c4 ?c5 ?_)
  case c1 => rfl
  case c2 => rfl
  case c3 => rw [hz2]; omega
  case c4 => unfold maxLen; omega
  case c5 => exact Nat.le_refl _
  intro w1 hown hgrow
  have hb1 : Below W0.heap.size W0 w1 := (Below.refl _ _).grown hgrow (Nat.le_refl _) (fun k hk => by simp at hk)
  have hi1 := made_ints hown
  have hlt1 : W0.heap.size < w1.heap.size := World.block_lt_of_cell? (a := ⟨W0.heap.size, 0, none⟩) _ (hi1 0 h0).1
  have hb2 : Below w1.heap.size w1 (w1.alloc (.cells #[.slice (some ⟨W0.heap.size, 0, none⟩) n n] 49)) := (Below.refl _ _).alloc (Nat.le_refl _) _
  have HA : Hid (ByAt w (w1.alloc (.cells #[.slice (some ⟨W0.heap.size, 0, none⟩) n n] 49)) g n rb W0.heap.size w1.heap.size K (fun _ => 0)) := by
    have e1 := HRB.out; have e2 := HSZ.out; have e3 := hb1.size
    have q1 : Rests w1 rb g n K := ⟨(hb1.cell (p := ⟨rb, 0, none⟩) hrl).trans HR.out.1, fun t ht => (hb1.cell (p := ⟨g, t, none⟩) (by show g < _; omega)).trans (HR.out.2 t ht)⟩
    refine ⟨(HB.out.trans (hb1.mono (by omega))).trans (hb2.mono (by omega)), ⟨kcell hb2 q1.1, fun t ht => kcell hb2 (q1.2 t ht)⟩, fun t ht => ⟨kcell hb2 (hi1 t ht).1, (hb2.frozen (p := ⟨W0.heap.size, t, none⟩) hlt1).trans (hi1 t ht).2⟩, by simp [go_sem], by omega, by omega, by omega, hg, by omega, by omega⟩
  go_wp2_with fail
  obtain ⟨W2, hW2⟩ : ∃ W2, W2 = w1.alloc (.cells #[.slice (some ⟨W0.heap.size, 0, none⟩) n n] 49) := ⟨_, rfl⟩
  obtain ⟨b, hb⟩ : ∃ b, b = W0.heap.size := ⟨_, rfl⟩
  obtain ⟨pb, hpb⟩ : ∃ pb, pb = w1.heap.size := ⟨_, rfl⟩
  rw [← hW2, ← hb, ← hpb] at HA
  rw [← hW2, ← hb, ← hpb]
  clear hW2 hb hpb hb2 hi1 hlt1 hb1 hown hgrow HRB HSZ HR HB hrl c0 HC W0
  go_loopw [11] (fun i wr => ∃ k : Nat, k ≤ n ∧ i = .int .i64 k ∧ ByAt w wr g n rb b pb K (fun t => if t < k then (t : Int) else 0)) (fun i _ => n - (intOf i).toNat)
  case atStart => exact ⟨0, Nat.zero_le _, rfl, by simpa using HA.out⟩
  case round =>
    obtain ⟨k, hk, rfl, hX⟩ := hrel
    have HX := Lib.hid hX
    clear hX HA
    have c1 := HX.out.box
    by_cases hlt : k < n
    · have c2 := (HX.out.ints k hlt).1
      have c3 := (HX.out.ints k hlt).2
      go_wp2_with fail
      go_roundw
      case rel =>
        refine ⟨k + 1, by omega, by go_num, ?_⟩
        have q := HX.out.put hlt (k : Int)
        refine ⟨q.bel, q.rests, ints_same q.ints fun t ht => ?_, q.box, q.r0, q.b0, q.p0, q.g0, q.rb', q.pb'⟩
        by_cases e : t = k
        · rw [if_pos e, if_pos (by omega), e]
        · rw [if_neg e]
          by_cases e2 : t < k
          · rw [if_pos e2, if_pos (by omega)]
          · rw [if_neg e2, if_neg (by omega)]
      case measure => simp [intOf]; omega
    · have hke : k = n := by omega
      subst hke
      have HG : Hid (g ≠ b) := by have := HX.out.g0; have := HX.out.b0; show g ≠ b; omega
      have HS : Hid (SW wr b k rb g K (fun t => (t : Int)) wr) :=
        ⟨But.refl _ _, ints_same HX.out.ints (fun t ht => by rw [if_pos ht]), HX.out.rests, HX.out.rb', HG.out, fun t ht => by omega, by omega⟩
      go_wp2_with fail
      refine (sort_any HS.out k hn).mono ?_
      rintro e w3 ⟨rfl, h, hS, hP, hM⟩
      have H3 := Lib.hid hS
      have HP := Lib.hid hP
      have HM := Lib.hid hM
      clear hS hP hM
      have bx : Below w.heap.size w w3 := HX.out.bel.trans (H3.out.but.below HX.out.b0)
      have c4 : w3.cell? ⟨pb, 0, none⟩ = some (.slice (some ⟨b, 0, none⟩) k k) := (H3.out.but.cell (p := ⟨pb, 0, none⟩) HX.out.pb').trans c1
      have HBX := Lib.hid bx
      have HC4 := Lib.hid c4
      clear bx c4 c1
      go_wp2_with fail
      go_ret
      have ba : Below w3.heap.size w3 (w3.alloc (.cells #[.int .i64 (-1)] 3)) := (Below.refl _ _).alloc (Nat.le_refl _) _
      have s3 := HBX.out.size
      have l1 : pb < w3.heap.size := World.block_lt_of_cell? (a := ⟨pb, 0, none⟩) _ HC4.out
      have l2 : b < w3.heap.size := World.block_lt_of_cell? (a := ⟨b, 0, none⟩) _ (H3.out.ints 0 h0).1
      refine ⟨w3.heap.size, pb, b, h, rfl, HBX.out.trans (ba.mono s3), s3, HX.out.p0, HX.out.b0, by omega, by omega, by simp [go_sem], by simp [go_sem], kcell ba HC4.out, fun t ht => ⟨kcell ba (H3.out.ints t ht).1, (ba.frozen (p := ⟨b, t, none⟩) l2).trans (H3.out.ints t ht).2⟩, HP.out, HM.out⟩
end Go.Proofs.YtklaonoekmhakaaGreat

namespace Go.Proofs.YtklaonoekmhakaaGreat
open Go.RowKit

def minN (f : Nat → Int) : Nat → Int
  | 0 => f 0
  | k + 1 => min (minN f k) (f k)
def maxN (f : Nat → Int) : Nat → Int
  | 0 => f 0
  | k + 1 => max (maxN f k) (f k)
theorem minN_le (f : Nat → Int) {k n : Nat} (h : k < n) : minN f n ≤ f k := by
  induction n with
  | zero => omega
  | succ n ih =>
    simp only [minN]
    by_cases e : k = n
    · subst e; omega
    · have := ih (by omega); omega
theorem minN_is (f : Nat → Int) {n : Nat} (h : 0 < n) : ∃ k, k < n ∧ minN f n = f k := by
  induction n with
  | zero => omega
  | succ n ih =>
    simp only [minN]
    by_cases e : n = 0
    · subst e; exact ⟨0, by omega, by simp [minN]⟩
    · obtain ⟨k, k1, k2⟩ := ih (by omega)
      by_cases q : minN f n ≤ f n
      · exact ⟨k, by omega, by rw [← k2]; omega⟩
      · exact ⟨n, by omega, by omega⟩
theorem maxN_ge (f : Nat → Int) {k n : Nat} (h : k < n) : f k ≤ maxN f n := by
  induction n with
  | zero => omega
  | succ n ih =>
    simp only [maxN]
    by_cases e : k = n
    · subst e; omega
    · have := ih (by omega); omega
theorem maxN_is (f : Nat → Int) {n : Nat} (h : 0 < n) : ∃ k, k < n ∧ maxN f n = f k := by
  induction n with
  | zero => omega
  | succ n ih =>
    simp only [maxN]
    by_cases e : n = 0
    · subst e; exact ⟨0, by omega, by simp [maxN]⟩
    · obtain ⟨k, k1, k2⟩ := ih (by omega)
      by_cases q : f n ≤ maxN f n
      · exact ⟨k, by omega, by rw [← k2]; omega⟩
      · exact ⟨n, by omega, by omega⟩

/-- a row of amounts that is only read -/
def Row (W : World) (b off n : Nat) (f : Nat → Int) : Prop := ∀ k, k < n → W.cell? ⟨b, off + k, none⟩ = some (.int .i64 (f k))
theorem Row.below {W W' : World} {b off n : Nat} {f : Nat → Int} (h : Row W b off n f) (hb : Below W.heap.size W W') : Row W' b off n f := fun k hk => kcell hb (h k hk)

set_option maxHeartbeats 400000 in
theorem min_any (f : Nat → Int) (b off n cap : Nat) (w : World) (h0 : 0 < n) (hn : n ≤ 1000) (h : Row w b off n f) :
    Calls Tryz.prog 144 #[.slice (some ⟨b, off, none⟩) n cap] w fun e w' => e = .returned (.int .i64 (minN f n)) ∧ w = w' := by
  have c0 : w.cell? ⟨b, off, none⟩ = some (.int .i64 (f 0)) := by simpa using h 0 h0
  have HR := Lib.hid h
  clear h
  go_enter Tryz.func144, Tryz.ntmps144
  go_wp2_with fail
  go_loop [3, 4] (fun m i => ∃ k : Nat, 0 < k ∧ k ≤ n ∧ i = .int .i64 k ∧ m = .int .i64 (minN f k)) (fun _ i => n - (intOf i).toNat)
  case atStart => exact ⟨1, Nat.one_pos, h0, rfl, by simp [minN]⟩
  case round =>
    obtain ⟨k, hk0, hk, rfl, rfl⟩ := hrel
    by_cases hlt : k < n
    · have hc := HR.out k hlt
      go_wp2_with fail
      go_round
      case rel => exact ⟨k + 1, by omega, by omega, by go_num, by simp only [minN]; congr 1; split <;> omega⟩
      case measure => simp [intOf]; omega
    · have : k = n := by omega
      subst this
      go_wp2_with fail
      go_ret
      exact ⟨rfl, rfl⟩

set_option maxHeartbeats 400000 in
theorem max_any (f : Nat → Int) (b off n cap : Nat) (w : World) (h0 : 0 < n) (hn : n ≤ 1000) (h : Row w b off n f) :
    Calls Tryz.prog 145 #[.slice (some ⟨b, off, none⟩) n cap] w fun e w' => e = .returned (.int .i64 (maxN f n)) ∧ w = w' := by
  have c0 : w.cell? ⟨b, off, none⟩ = some (.int .i64 (f 0)) := by simpa using h 0 h0
  have HR := Lib.hid h
  clear h
  go_enter Tryz.func145, Tryz.ntmps145
  go_wp2_with fail
  go_loop [3, 4] (fun m i => ∃ k : Nat, 0 < k ∧ k ≤ n ∧ i = .int .i64 k ∧ m = .int .i64 (maxN f k)) (fun _ i => n - (intOf i).toNat)
  case atStart => exact ⟨1, Nat.one_pos, h0, rfl, by simp [maxN]⟩
  case round =>
    obtain ⟨k, hk0, hk, rfl, rfl⟩ := hrel
    by_cases hlt : k < n
    · have hc := HR.out k hlt
      go_wp2_with fail
      go_round
      case rel => exact ⟨k + 1, by omega, by omega, by go_num, by simp only [maxN]; congr 1; split <;> omega⟩
      case measure => simp [intOf]; omega
    · have : k = n := by omega
      subst this
      go_wp2_with fail
      go_ret
      exact ⟨rfl, rfl⟩

theorem check_full (a : Option Addr) (n cap : Nat) (w : World) (h : 64 < n) :
    Calls Tryz.prog 124 #[.slice a n cap] w fun e w' => e = .returned (.int .i64 4) ∧ w = w' := by
  have z : (64 : Int) < (n : Int) := by omega
  go_enter Tryz.func124, Tryz.ntmps124
  go_wp2_with fail
  go_ret
  exact ⟨rfl, rfl⟩
theorem check_none (a : Option Addr) (cap : Nat) (w : World) :
    Calls Tryz.prog 124 #[.slice a 0 cap] w fun e w' => e = .returned (.int .i64 1) ∧ w = w' := by
  go_enter Tryz.func124, Tryz.ntmps124
  go_wp2_with fail
  go_ret
  exact ⟨rfl, rfl⟩
set_option maxHeartbeats 400000 in
theorem check_some (f : Nat → Int) (b off n cap : Nat) (w : World) (h0 : 0 < n) (hn : n ≤ 64) (h : Row w b off n f) :
    Calls Tryz.prog 124 #[.slice (some ⟨b, off, none⟩) n cap] w fun e w' => e = .returned (.int .i64 (if minN f n < 0 ∨ maxN f n = 0 then 1 else 0)) ∧ w = w' := by
  have HR := Lib.hid h
  clear h
  have z1 : ¬ (64 : Int) < (n : Int) := by omega
  have z2 : ((n : Int) == 0) = false := by simp; omega
  by_cases e1 : minN f n < 0
  · rw [if_pos (.inl e1)]
    go_enter Tryz.func124, Tryz.ntmps124
    go_wp2_with (first | (go_at_call 144; refine (min_any f b off n cap _ h0 (by omega) HR.out).mono ?_; rintro e w' ⟨rfl, rfl⟩) | (go_at_call 145; refine (max_any f b off n cap _ h0 (by omega) HR.out).mono ?_; rintro e w' ⟨rfl, rfl⟩))
    go_ret
    exact ⟨rfl, rfl⟩
  · have e1z : decide (minN f n < 0) = false := by simp; omega
    by_cases e2 : maxN f n = 0
    · rw [if_pos (.inr e2)]
      have e2z : (maxN f n == 0) = true := by simp [e2]
      go_enter Tryz.func124, Tryz.ntmps124
      go_wp2_with (first | (go_at_call 144; refine (min_any f b off n cap _ h0 (by omega) HR.out).mono ?_; rintro e w' ⟨rfl, rfl⟩) | (go_at_call 145; refine (max_any f b off n cap _ h0 (by omega) HR.out).mono ?_; rintro e w' ⟨rfl, rfl⟩))
      go_ret
      exact ⟨rfl, rfl⟩
    · rw [if_neg (by omega)]
      have e2z : (maxN f n == 0) = false := by simp [e2]
      go_enter Tryz.func124, Tryz.ntmps124
      go_wp2_with (first | (go_at_call 144; refine (min_any f b off n cap _ h0 (by omega) HR.out).mono ?_; rintro e w' ⟨rfl, rfl⟩) | (go_at_call 145; refine (max_any f b off n cap _ h0 (by omega) HR.out).mono ?_; rintro e w' ⟨rfl, rfl⟩))
      go_ret
      exact ⟨rfl, rfl⟩
/-- share's blocks: the portions, and the rests -/
structure ShAt (w W : World) (p r n : Nat) (fp fr : Nat → Int) : Prop where
  bel : Below w.heap.size w W
  ip : Ints W p n fp
  ir : Ints W r n fr
  p0 : w.heap.size ≤ p
  r0 : w.heap.size ≤ r
  pr : p ≠ r
  pl : p < W.heap.size
  rl : r < W.heap.size
variable {w W W' : World} {p r n : Nat} {fp fr : Nat → Int}
theorem ints_up {W W' : World} {b n : Nat} {f : Nat → Int} (h : Ints W b n f) (hb : Below W.heap.size W W') : Ints W' b n f := fun t ht =>
  ⟨kcell hb (h t ht).1, (hb.frozen (p := ⟨b, t, none⟩) (World.block_lt_of_cell? (a := ⟨b, t, none⟩) _ (h t ht).1)).trans (h t ht).2⟩
theorem ints_but {W W' : World} {b c n : Nat} {f : Nat → Int} (h : Ints W b n f) (hb : But c W W') (hne : b ≠ c) : Ints W' b n f := fun t ht =>
  ⟨(hb.cell (p := ⟨b, t, none⟩) hne).trans (h t ht).1, (hb.frozen (p := ⟨b, t, none⟩) hne).trans (h t ht).2⟩
theorem ShAt.up (h : ShAt w W p r n fp fr) (hb : Below W.heap.size W W') : ShAt w W' p r n fp fr :=
  have s := hb.size
  have q := h.bel.size
  ⟨h.bel.trans (hb.mono q), ints_up h.ip hb, ints_up h.ir hb, h.p0, h.r0, h.pr, by have := h.pl; omega, by have := h.rl; omega⟩
theorem ShAt.putP (h : ShAt w W p r n fp fr) {k : Nat} (hk : k < n) (v : Int) : ShAt w (W.setCell ⟨p, k, none⟩ (.int .i64 v)) p r n (fun s => if s = k then v else fp s) fr := by
  have q : But p W (W.setCell ⟨p, k, none⟩ (.int .i64 v)) := (But.refl p W).set k _
  exact ⟨h.bel.setCell h.p0 _, ints_set h.ip hk v, ints_but h.ir q (fun e => h.pr e.symm), h.p0, h.r0, h.pr, by rw [q.size]; exact h.pl, by rw [q.size]; exact h.rl⟩
theorem ShAt.putR (h : ShAt w W p r n fp fr) {k : Nat} (hk : k < n) (v : Int) : ShAt w (W.setCell ⟨r, k, none⟩ (.int .i64 v)) p r n fp (fun s => if s = k then v else fr s) := by
  have q : But r W (W.setCell ⟨r, k, none⟩ (.int .i64 v)) := (But.refl r W).set k _
  exact ⟨h.bel.setCell h.r0 _, ints_but h.ip q h.pr, ints_set h.ir hk v, h.p0, h.r0, h.pr, by rw [q.size]; exact h.pl, by rw [q.size]; exact h.rl⟩
theorem ShAt.same {fp' fr' : Nat → Int} (h : ShAt w W p r n fp fr) (e1 : ∀ t, t < n → fp' t = fp t) (e2 : ∀ t, t < n → fr' t = fr t) : ShAt w W p r n fp' fr' :=
  ⟨h.bel, ints_same h.ip e1, ints_same h.ir e2, h.p0, h.r0, h.pr, h.pl, h.rl⟩
/-- the first ones of a row, 0 behind -/
def upTo (f : Nat → Int) (k : Nat) : Nat → Int := fun t => if t < k then f t else 0
theorem upTo_step (f : Nat → Int) (k t : Nat) : upTo f (k + 1) t = if t = k then f k else upTo f k t := by
  unfold upTo
  by_cases e : t = k
  · rw [if_pos e, if_pos (by omega), e]
  · rw [if_neg e]
    by_cases q : t < k
    · rw [if_pos q, if_pos (by omega)]
    · rw [if_neg q, if_neg (by omega)]

theorem Tryz.infoI64 : (Tryz.prog.info? 2).map (fun i => (i.zero, i.size, i.bytes)) = some (some (.int .i64 0), 1, 8) := by kernel_rfl
theorem tell_in {v : Int} (h1 : -9223372036854775808 ≤ v) (h2 : v ≤ 9223372036854775807) : tellV v = v ∧ tellE v = 0 := by
  unfold tellV tellE; rw [if_pos ⟨h1, h2⟩, if_pos ⟨h1, h2⟩]; exact ⟨rfl, rfl⟩

theorem toldV_bd (h : Nat → Int) (m t : Nat) : 0 ≤ toldV h m t ∧ toldV h m t ≤ m := by
  unfold toldV
  induction m with
  | zero => simp [sumN]
  | succ m ih => simp only [sumN]; split <;> omega
/-- the round in which one more is given -/
structure NxAt (w W : World) (p ab pb b n : Nat) (fv h : Nat → Int) (j : Int) : Prop where
  bel : Below w.heap.size w W
  ip : Ints W p n fv
  ca : W.cell? ⟨ab, 0, none⟩ = some (.int .i64 (j - 1))
  fa : W.frozen? ⟨ab, 0, none⟩ = false
  cp : W.cell? ⟨pb, 0, none⟩ = some (.slice (some ⟨b, 0, none⟩) n n)
  ib : Ints W b n h
  p0 : w.heap.size ≤ p
  a0 : w.heap.size ≤ ab
  e1 : p ≠ ab
  e2 : p ≠ b
  e3 : p ≠ pb
  e4 : pb ≠ ab
  e5 : b ≠ ab
theorem NxAt.next {w W : World} {p ab pb b n : Nat} {fv h : Nat → Int} {j : Nat} (q : NxAt w W p ab pb b n fv h j) : NxAt w (W.setCell ⟨ab, 0, none⟩ (.int .i64 (j : Int))) p ab pb b n fv h (j + 1) := by
  have k : But ab W (W.setCell ⟨ab, 0, none⟩ (.int .i64 (j : Int))) := (But.refl ab W).set 0 _
  refine ⟨q.bel.setCell q.a0 _, ints_but q.ip k q.e1, ?_, by rw [World.frozen?_setCell]; exact q.fa, (k.cell (p := ⟨pb, 0, none⟩) q.e4).trans q.cp, ints_but q.ib k q.e5, q.p0, q.a0, q.e1, q.e2, q.e3, q.e4, q.e5⟩
  rw [World.cell?_setCell_same' _ _ _ (by rw [q.ca]; rfl), show (j : Int) + 1 - 1 = j by omega]
theorem NxAt.put {w W : World} {p ab pb b n : Nat} {fv h : Nat → Int} {j : Int} (q : NxAt w W p ab pb b n fv h j) {x : Nat} (hx : x < n) (v : Int) : NxAt w (W.setCell ⟨p, x, none⟩ (.int .i64 v)) p ab pb b n (fun s => if s = x then v else fv s) h j := by
  have k : But p W (W.setCell ⟨p, x, none⟩ (.int .i64 v)) := (But.refl p W).set x _
  exact ⟨q.bel.setCell q.p0 _, ints_set q.ip hx v, (k.cell (p := ⟨ab, 0, none⟩) (fun e => q.e1 e.symm)).trans q.ca, (k.frozen (p := ⟨ab, 0, none⟩) (fun e => q.e1 e.symm)).trans q.fa, (k.cell (p := ⟨pb, 0, none⟩) (fun e => q.e3 e.symm)).trans q.cp, ints_but q.ib k (fun e => q.e2 e.symm), q.p0, q.a0, q.e1, q.e2, q.e3, q.e4, q.e5⟩
theorem NxAt.same {w W : World} {p ab pb b n : Nat} {fv fv' h : Nat → Int} {j j' : Int} (q : NxAt w W p ab pb b n fv h j) (e : ∀ t, t < n → fv' t = fv t) (ej : j' = j) : NxAt w W p ab pb b n fv' h j' := by
  subst ej
  exact ⟨q.bel, ints_same q.ip e, q.ca, q.fa, q.cp, q.ib, q.p0, q.a0, q.e1, q.e2, q.e3, q.e4, q.e5⟩

/-- a list of portions, told as new memory -/
def Shared (w : World) (n : Nat) (v : Nat → Int) (K : Nat → Int) (e : Ending) (w' : World) : Prop :=
  ∃ p, e = .returned (.slice (some ⟨p, 0, none⟩) n n) ∧ Below w.heap.size w w' ∧ w.heap.size ≤ p ∧ Ints w' p n v ∧ ∃ h, Piece n K h 0 n ∧ SameSum n h

set_option maxRecDepth 100000 in
set_option maxHeartbeats 2000000 in
theorem share_any (size s : Int) (f : Nat → Int) (b off n cap : Nat) (w : World) (hW : Weights f n s) (z0 : 0 ≤ size) (z1 : size ≤ 9223372036854775807) (s1 : s ≤ 9223372036854775807) (hn : n ≤ 64) (hr : Row w b off n f) :
    Calls Tryz.prog 125 #[.int .i64 size, .slice (some ⟨b, off, none⟩) n cap, .int .i64 s] w (Shared w n (shareV size f s n) (restV size f s)) := by
  obtain ⟨i0, hi, hz0, hz1, hz2⟩ := info_parts Tryz.infoI64
  have HW := Lib.hid hW
  have HR := Lib.hid hr
  have h0 := hW.n0
  clear hW hr
  go_enter Tryz.func125, Tryz.ntmps125
  go_wp2_with (at_make; refine wpList_make_full _ rfl _ _ 64 rfl w.heap.size 2 i0 (.int .i64 0) 1 Tryz.underlying64 hi hz0 hz1 .i64 .i64 _ _ n rfl rfl ?c1 ?c2 ?c3 ?c4 ?c5 ?_)
  case c1 => rfl
  case c2 => rfl
  case c3 => rw [hz2]; omega
  case c4 => unfold maxLen; omega
  case c5 => exact Nat.le_refl _
  intro w1 hown hgrow
  have hb1 : Below w.heap.size w w1 := (Below.refl _ _).grown hgrow (Nat.le_refl _) (fun k hk => by simp at hk)
  have hi1 := made_ints hown
  have HL1 := Lib.hid (World.block_lt_of_cell? (a := ⟨w.heap.size, 0, none⟩) _ (hi1 0 h0).1)
  have HI1 := Lib.hid hi1
  have HB1 := Lib.hid hb1
  clear hown hgrow hi1 hb1
  go_wp2_with (at_make; refine wpList_make_full _ rfl _ _ 64 rfl w1.heap.size 2 i0 (.int .i64 0) 1 Tryz.underlying64 hi hz0 hz1 .i64 .i64 _ _ n rfl rfl ?c1 ?c2 ?c3 ?c4 ?c5 ?_)
  case c1 => rfl
  case c2 => rfl
  case c3 => omega
  case c4 => unfold maxLen; omega
  intro w2 hown hgrow
  have hb2 : Below w1.heap.size w1 w2 := (Below.refl _ _).grown hgrow (Nat.le_refl _) (fun k hk => by simp at hk)
  have hi2 := made_ints hown
  have hl2 := World.block_lt_of_cell? (a := ⟨w1.heap.size, 0, none⟩) _ (hi2 0 h0).1
  have HS : Hid (ShAt w w2 w.heap.size w1.heap.size n (upTo (partV size f s) 0) (upTo (restV size f s) 0)) := by
    have e1 := HL1.out; have e2 := hb2.size; have e3 := HB1.out.size
    simp only at hl2 e1
    exact ⟨HB1.out.trans (hb2.mono e3), ints_same (ints_up HI1.out hb2) (fun t _ => by simp [upTo]), ints_same hi2 (fun t _ => by simp [upTo]), Nat.le_refl _, e3, by omega, by omega, hl2⟩
  obtain ⟨p, hp⟩ : ∃ p, p = w.heap.size := ⟨_, rfl⟩
  obtain ⟨r, hr⟩ : ∃ r, r = w1.heap.size := ⟨_, rfl⟩
  have HS2 : Hid (ShAt w w2 p r n (upTo (partV size f s) 0) (upTo (restV size f s) 0)) := by rw [hp, hr]; exact HS.out
  rw [← hp, ← hr]
  clear HS hown hgrow hi2 hb2 hl2 HB1 HI1 HL1 hp hr
  go_wp2_with fail
  go_loopw [9, 22] (fun vm vi wr => ∃ k : Nat, k ≤ n ∧ vi = .int .i64 k ∧ vm = .int .i64 (size - sumN (partV size f s) k) ∧ ShAt w wr p r n (upTo (partV size f s) k) (upTo (restV size f s) k)) (fun _ vi _ => n - (intOf vi).toNat)
  case atStart => exact ⟨0, Nat.zero_le _, rfl, by simp [sumN], HS2.out⟩
  case round =>
    clear HS2
    obtain ⟨k, hk, rfl, rfl, hS⟩ := hrel
    have HS := Lib.hid hS
    clear hS
    by_cases hlt : k < n
    · have c0 : wr.cell? ⟨b, off + k, none⟩ = some (.int .i64 (f k)) := kcell HS.out.bel (HR.out k hlt)
      have HF : Hid (0 ≤ f k ∧ f k ≤ 9223372036854775807) := ⟨HW.out.pos k hlt, by have := sumN_term HW.out.pos hlt; rw [HW.out.sum] at this; omega⟩
      have HP : Hid (tellV (size * f k / s) = partV size f s k) := by
        have a1 := HW.out.part0 z0 hlt; have a2 := HW.out.room z0 hlt; have a3 := HW.out.miss0 (size := size)
        exact (tell_in (v := partV size f s k) (by omega) (by omega)).1
      go_wp2_with fail
      refine (part_any size (f k) s _ (by omega) (by omega) HF.out.1 HF.out.2 (by have := HW.out.s0; omega) s1).mono ?_
      rintro e w3 ⟨rfl, hb3⟩
      rw [HP.out]
      have HS3 := Lib.hid (HS.out.up hb3)
      clear HS hb3 HP c0
      have c1 := (HS3.out.ip k hlt).1
      have c2 := (HS3.out.ip k hlt).2
      obtain ⟨pv, hpv⟩ : ∃ pv, pv = partV size f s k := ⟨_, rfl⟩
      rw [← hpv]
      have HPV := Lib.hid hpv
      clear hpv
      have HS4 := Lib.hid (HS3.out.putP hlt pv)
      go_wp2_with fail
      clear HS3 c1 c2
      obtain ⟨W4, hW4⟩ : ∃ W4, W4 = w3.setCell ⟨p, k, none⟩ (.int .i64 pv) := ⟨_, rfl⟩
      rw [← hW4] at HS4 ⊢
      clear hW4
      refine (rest_any size (f k) s _ (by omega) (by omega) HF.out.1 HF.out.2 (by have := HW.out.s0; omega) s1).mono ?_
      rintro e w5 ⟨rfl, hb5⟩
      obtain ⟨rv, hrv⟩ : ∃ rv, rv = size * f k % s := ⟨_, rfl⟩
      rw [← hrv]
      have HRV := Lib.hid hrv
      clear hrv
      have HS5 := Lib.hid (HS4.out.up hb5)
      clear HS4 hb5
      have c1 := (HS5.out.ir k hlt).1
      have c2 := (HS5.out.ir k hlt).2
      have HS6 := Lib.hid (HS5.out.putR hlt rv)
      have HC3 : Hid (∀ v, (w5.setCell ⟨r, k, none⟩ v).cell? ⟨p, k, none⟩ = some (.int .i64 pv)) := by
        intro v
        rw [((But.refl r w5).set k v).cell (p := ⟨p, k, none⟩) HS5.out.pr]
        have := (HS5.out.ip k hlt).1
        rwa [if_pos rfl] at this
      have c3 := HC3.out (.int .i64 rv)
      have HWR : Hid (IntKind.i64.wrap (size - sumN (partV size f s) k - pv) = size - sumN (partV size f s) (k + 1)) := by
        have a1 := HW.out.left z0 (k := k + 1) (by omega)
        simp only [sumN] at a1 ⊢
        show IntKind.i64.wrap _ = _
        rw [HPV.out, IntKind.wrap_i64]; omega
      have hwr := HWR.out
      go_wp2_with fail
      go_roundw
      case rel =>
        refine ⟨k + 1, by omega, by go_num, rfl, HS6.out.same (fun t ht => ?_) (fun t ht => ?_)⟩
        · rw [upTo_step, HPV.out]
        · rw [upTo_step, HRV.out]; rfl
      case measure => simp [intOf]; omega
    · have hke : k = n := by omega
      subst hke
      have HZ := Lib.hid (HW.out.miss1 (size := size))
      have HZ0 := Lib.hid (HW.out.miss0 (size := size))
      obtain ⟨M, hM⟩ : ∃ M : Nat, (M : Int) = missV size f s k := ⟨(missV size f s k).toNat, by have := HZ0.out; omega⟩
      have hMe : size - sumN (partV size f s) k = (M : Int) := hM.symm
      have HMm := Lib.hid hM
      have hMk : M < k := by have := HZ.out; omega
      rw [hMe]
      clear hM hMe HZ HZ0
      go_wp2_with fail
      refine (byRest_any wr r k (restV size f s) h0 hn HS.out.rl (fun t ht => by have := (HS.out.ir t ht).1; rwa [upTo, if_pos ht] at this)).mono ?_
      rintro e w3 ⟨ab, pb, pl, h, rfl, hb3, a1, a2, a3, a4, a5, a6, a7, a8, a9, hP, hQ⟩
      have HX : Hid (NxAt w w3 p ab pb pl k (fun t => partV size f s t + toldV h 0 t) h 0) := by
        have q := HS.out.up hb3
        have e1 := HS.out.pl
        exact ⟨q.bel, ints_same q.ip (fun t ht => by rw [upTo, if_pos ht]; simp [toldV, sumN]), a6, a7, a8, a9, q.p0, by have := HS.out.bel.size; omega, by omega, by omega, by omega, a4, a5⟩
      have HP := Lib.hid hP
      have HQ := Lib.hid hQ
      clear hb3 a1 a2 a3 a4 a5 a6 a7 a8 a9 hP hQ HS
      go_wp2_with fail
      go_loopw [57] (fun vj wr => ∃ j : Nat, j ≤ M ∧ vj = .int .i64 j ∧ NxAt w wr p ab pb pl k (fun t => partV size f s t + toldV h j t) h j) (fun vj _ => M - (intOf vj).toNat)
      case atStart => exact ⟨0, Nat.zero_le _, rfl, HX.out⟩
      case round =>
        clear HX
        obtain ⟨j, hj, rfl, hX⟩ := hrel
        have HX := Lib.hid hX
        clear hX
        by_cases hjm : j < M
        · have hjz : (j : Int) < (M : Int) := by omega
          go_wp2_with fail
          refine (next_any wr ab pb pl k j h (by omega) (by omega) HX.out.ca HX.out.fa HX.out.cp (HX.out.ib j (by omega)).1 HX.out.e4 HX.out.e5).mono ?_
          rintro e w4 ⟨rfl, hw4⟩
          have HX4 : Hid (NxAt w w4 p ab pb pl k (fun t => partV size f s t + toldV h j t) h (j + 1)) := by rw [hw4]; exact HX.out.next
          clear HX hw4
          obtain ⟨x, hx⟩ : ∃ x : Nat, h j = (x : Int) := ⟨(h j).toNat, by have := HP.out.2 j (Nat.zero_le _) (by omega); omega⟩
          have hxk : x < k := by have := HP.out.2 j (Nat.zero_le _) (by omega); omega
          rw [hx]
          have HXJ := Lib.hid hx
          clear hx
          have c1 := (HX4.out.ip x hxk).1
          have c2 := (HX4.out.ip x hxk).2
          obtain ⟨g, hg⟩ : ∃ g, g = partV size f s x + toldV h j x := ⟨_, rfl⟩
          rw [← hg] at c1
          have HG := Lib.hid hg
          clear hg
          have i1 : IntKind.i64.wrap (g + 1) = g + 1 := by
            have b1 := toldV_bd h j x; have b2 := HW.out.part0 z0 hxk; have b3 := HW.out.room z0 hxk; have b4 := HMm.out; have b5 := HG.out
            rw [IntKind.wrap_i64]; omega
          have hxz : (x : Int) < (k : Int) := by omega
          go_wp2_with fail
          go_roundw
          case rel =>
            refine ⟨j + 1, by omega, by go_num, (HX4.out.put hxk (g + 1)).same (fun t ht => ?_) (by omega)⟩
            have e0 : toldV h (j + 1) t = toldV h j t + if h j = (t : Int) then 1 else 0 := rfl
            rw [e0, HXJ.out]
            by_cases e : t = x
            · rw [if_pos e, if_pos (by omega), e, HG.out]; omega
            · rw [if_neg e, if_neg (by omega)]; omega
          case measure => simp [intOf]; omega
        · have hje : j = M := by omega
          subst hje
          have hjz : ¬ (j : Int) < (j : Int) := by omega
          go_wp2_with fail
          go_ret
          refine ⟨p, rfl, HX.out.bel, HX.out.p0, ints_same HX.out.ip (fun t ht => ?_), h, HP.out, HQ.out⟩
          rw [told_is HP.out HQ.out (by omega) ht]
          unfold shareV
          rw [← HMm.out]
end Go.Proofs.YtklaonoekmhakaaGreat
