/- Contracts: By. -/
import Derived.Test.YtobdcogaphkogaaSm
import Derived.Test.YtobdcogaphkogaaByMath
namespace Go.Proofs.Ytobdcogaphkogaa
open Go.RowKit

/-- a product's digits, in a block of its own -/
def MAt (w W : World) (sa va sb vb : Value) (g T : Nat) (L : List Int) : Prop :=
  PHead w W sa va sb vb ∧ w.heap.size + 3 ≤ g ∧ L.length = T ∧ DigOk L ∧ W.ownsRow (w.heap.size + 3) 3 1 (.slice (some ⟨g, 0, none⟩) T T) T (L.map (Value.int .i64))
theorem MAt.drewN {w W : World} {sa va sb vb : Value} {g T : Nat} {L : List Int} (h : MAt w W sa va sb vb g T L) (n : Nat) : MAt w (W.drewN n) sa va sb vb g T L :=
  ⟨h.1.drewN n, h.2.1, h.2.2.1, h.2.2.2.1, h.2.2.2.2⟩
theorem MAt.cell {w W : World} {sa va sb vb : Value} {g T : Nat} {L : List Int} (h : MAt w W sa va sb vb g T L) {j : Nat} (hj : j < T) : W.cell? ⟨g, j, none⟩ = some (.int .i64 (dg L j)) := by
  obtain ⟨_, _, h3, _, h5⟩ := h
  rw [h5.cellAt j (by omega), List.getElem?_map, List.getElem?_eq_getElem (by omega)]
  unfold dg; rw [getD_lt (by omega)]; rfl
theorem MAt.free {w W : World} {sa va sb vb : Value} {g T : Nat} {L : List Int} (h : MAt w W sa va sb vb g T L) (j : Nat) : W.frozen? ⟨g, j, none⟩ = false := h.2.2.2.2.frozenAt j
theorem MAt.put {w W : World} {sa va sb vb : Value} {g T : Nat} {L : List Int} (h : MAt w W sa va sb vb g T L) (j : Nat) {x : Int} (h0 : 0 ≤ x) (h9 : x ≤ 999) : MAt w (W.setCell ⟨g, j, none⟩ (.int .i64 x)) sa va sb vb g T (L.set j x) := by
  obtain ⟨h1, h2, h3, h4, h5⟩ := h
  refine ⟨h1.up ((Below.refl (w.heap.size + 3) W).setCell h2 _) (Nat.le_refl _), h2, by rw [List.length_set]; exact h3, digOk_set h4 h0 h9, ?_⟩
  rw [List.map_set]; exact (h5.stored j _).1
theorem MAt.own {w W : World} {sa va sb vb : Value} {g T : Nat} {L : List Int} (h : MAt w W sa va sb vb g T L) : Own W (w.heap.size + 3) (.slice (some ⟨g, 0, none⟩) T T) L := by
  unfold Own; rw [h.2.2.1]; exact h.2.2.2.2
theorem top_pos {l : List Int} {j : Nat} (hd : DigOk l) (hk : j + 1 ≤ l.length) (hne : dg l j ≠ 0) (hv : lval (l.take (j + 1)) = lval l) : lval l ≠ 0 := by
  have hlen : (l.take (j + 1)).length = j + 1 := by rw [List.length_take]; omega
  have h2 := lval_top (digOk_take hd (j + 1)) (.inr (by rw [hlen, Nat.add_sub_cancel, dg_take (by omega)]; exact hne)) (by intro e; rw [e] at hlen; simp at hlen)
  have h3 := pow_pos' ((l.take (j + 1)).length - 1)
  omega

set_option maxHeartbeats 400000 in
theorem made_gen (s : Int) (g cap : Nat) (l : List Int) (hs : lval l ≠ 0 → s = 1 ∨ s = -1) (w : World) (h : Dg w (some ⟨g, 0, none⟩) cap l) (hd : DigOk l) (hl : l.length ≤ 1000) :
    Calls Try.prog 44 #[.int .i64 s, .slice (some ⟨g, 0, none⟩) l.length cap] w (ExPost w (s * lval l)) := by
  have HD := Lib.hid h
  have HO := Lib.hid hd
  have HS := Lib.hid hs
  clear hs h hd
  go_enter Try.func44, Try.ntmps44
  go_wp2_with fail
  go_loop [1] (fun v => ∃ k : Nat, k ≤ l.length ∧ v = .slice (some ⟨g, 0, none⟩) k cap ∧ Hid (lval (l.take k) = lval l)) (fun v => match v with | .slice _ k _ => k | _ => 0)
  case atStart => exact ⟨l.length, Nat.le_refl _, rfl, Lib.hid (by rw [List.take_length])⟩
  case round =>
    obtain ⟨k, hk, rfl, HV⟩ := hrel
    by_cases hz : k = 0
    · subst hz
      go_wp2_with fail
      have hz0 : s * lval l = 0 := by rw [← HV.out]; simp [lval]
      exact bodyPost_ret (v := .agg #[.int .i64 0, .slice none 0 0]) (by simp [results, Try.results44, go_sem]) rfl
        ⟨0, none, 0, 0, rfl, ex_zero hz0 0, (Below.refl _ _).alloc (Nat.le_refl _) _⟩
    · obtain ⟨j, rfl⟩ : ∃ j, k = j + 1 := ⟨k - 1, by omega⟩
      clear hz
      obtain ⟨hcap, hcl⟩ : l.length ≤ cap ∧ w.cell? ⟨g, j, none⟩ = some (.int .i64 (dg l j)) := by
        rcases HD.out with ⟨h1, _⟩ | ⟨g', h1, h2, h3⟩
        · simp at h1
        · simp at h1; subst h1; exact ⟨h2, h3.2 j (by omega)⟩
      have hg : g < w.heap.size := World.block_lt_of_cell? (a := ⟨g, j, none⟩) _ hcl
      by_cases hx : dg l j = 0
      · have HX := Lib.hid (lval_take_zero hk hx)
        have hb : (dg l j == 0) = true := by rw [hx]; rfl
        clear hx
        go_wp2_with fail
        go_round
        case rel => exact ⟨j, by omega, rfl, Lib.hid (by rw [← HX.out]; exact HV.out)⟩
        case measure => simp
      · have HX := Lib.hid hx
        have hb : (dg l j == 0) = false := beq_eq_false_iff_ne.2 hx
        clear hx
        go_wp2_with fail
        have hB : Below w.heap.size w (w.alloc (.cells #[.int .i64 s, .slice (some ⟨g, 0, none⟩) (j + 1) cap] 69)) := (Below.refl _ _).alloc (Nat.le_refl _) _
        exact bodyPost_ret (v := .agg #[.int .i64 s, .slice (some ⟨g, 0, none⟩) (j + 1) cap]) (by simp [results, Try.results44, go_sem]) rfl
          ⟨s, _, j + 1, cap, rfl, (ex_made (HS.out (top_pos HO.out hk HX.out HV.out)) HD.out HO.out hk HX.out HV.out).below hB, hB⟩

theorem zeros_ok (T : Nat) : DigOk (List.replicate T 0) ∧ lval (List.replicate T 0) = 0 := by
  constructor
  · intro d hd; rw [List.mem_replicate] at hd; omega
  · induction T with
    | zero => rfl
    | succ T ih => rw [List.replicate_succ, lval, ih]; rfl

theorem m_start {w W0 w1 : World} {sa va sb vb : Value} {T : Nat} (h : PHead w W0 sa va sb vb) (h1 : w1.ownsRow (w.heap.size + 3) 3 1 (.slice (some ⟨W0.heap.size, 0, none⟩) T T) T (madeCells #[Value.int .i64 0] T).toList) (h2 : W0.grownBy w1 none) :
    MAt w w1 sa va sb vb W0.heap.size T (List.replicate T 0) := by
  have hb : Below (w.heap.size + 3) W0 w1 := (Below.refl _ _).grown h2 h.2.1 (fun k hk => by simp at hk)
  refine ⟨h.up hb (Nat.le_refl _), h.2.1, by simp, (zeros_ok T).1, ?_⟩
  rw [List.map_replicate]
  rw [toList_madeCells_one] at h1
  exact h1
theorem MAt.b {w W : World} {sa va sb vb : Value} {g T : Nat} {L : List Int} (h : MAt w W sa va sb vb g T L) : Below w.heap.size w W := h.1.1
theorem dg_get {W : World} {a : Option Addr} {cap : Nat} {l : List Int} (h : Dg W a cap l) {j : Nat} (hj : j < l.length) : ∃ g, a = some ⟨g, 0, none⟩ ∧ W.cell? ⟨g, j, none⟩ = some (.int .i64 (dg l j)) := by
  rcases h with ⟨_, q2⟩ | ⟨g, q1, _, _, q4⟩
  · rw [q2] at hj; simp at hj
  · exact ⟨g, q1, q4 j hj⟩
theorem mul999 {x y : Int} (h1 : 0 ≤ x) (h2 : x ≤ 999) (h3 : 0 ≤ y) (h4 : y ≤ 999) : 0 ≤ x * y ∧ x * y ≤ 998001 := by
  have a1 : 0 ≤ x * y := Int.mul_nonneg h1 h3
  have a2 : x * y ≤ 999 * y := Int.mul_le_mul_of_nonneg_right h2 h3
  omega

set_option maxRecDepth 100000 in
set_option maxHeartbeats 1600000 in
theorem by_raw (s sb p : Int) (a b : Option Addr) (lena lenb capa capb : Nat) (la lb : List Int) (w : World) (hw : wrap64 (s * sb) = p) (hs : lval la * lval lb ≠ 0 → p = 1 ∨ p = -1)
    (ha : Dg w a capa la) (hb : Dg w b capb lb) (oa : DigOk la) (ob : DigOk lb) (ea : la.length = lena) (eb : lb.length = lenb) (h1 : lena ≤ 200) (h2 : lenb ≤ 200) :
    Calls Try.prog 54 #[.agg #[.int .i64 s, .slice a lena capa], .agg #[.int .i64 sb, .slice b lenb capb]] w (ExPost w (p * (lval la * lval lb))) := by
  obtain ⟨i0, hi, hz0, hz1, hz2⟩ := info_parts Try.infoInt
  have HA := Lib.hid ha; have HB := Lib.hid hb; have OA := Lib.hid oa; have OB := Lib.hid ob; have EA := Lib.hid ea; have EB := Lib.hid eb; have HS := Lib.hid hs; have HW := Lib.hid hw
  clear ha hb oa ob ea eb hs hw
  have HP := Lib.hid (phead_start w (.int .i64 s) (.slice a lena capa) (.int .i64 sb) (.slice b lenb capb))
  go_enter Try.func54, Try.ntmps54
  go_upto_region 1 with fail
  obtain ⟨W0, hW0⟩ : ∃ W0, W0 = (((w.alloc (.cells #[.int .i64 s, .slice a lena capa] 69)).alloc (.cells #[.int .i64 sb, .slice b lenb capb] 69)).alloc (.cells #[.int .i64 0, .slice none 0 0] 69)) := ⟨_, rfl⟩
  rw [← hW0] at HP
  rw [← hW0]
  clear hW0
  obtain ⟨_, hz3, c0, c1, c2, c3, _⟩ := HP.out
  go_wp2_with (at_make; refine wpList_make_full _ rfl _ _ 22 rfl (w.heap.size + 3) 3 i0 (.int .i64 0) 1 Try.underlying22 hi hz0 hz1 .i64 .i64 _ _ (lena + lenb + 2) rfl rfl ?c1 ?c2 ?c3 ?c4 ?c5 ?_)
  case c1 => omega
  case c2 => omega
  case c3 => rw [hz2]; omega
  case c4 => unfold maxLen; omega
  case c5 => exact hz3
  intro w1 hown hgrow
  have HM0 := Lib.hid (m_start HP.out hown hgrow)
  clear hown hgrow c0 c1 c2 c3 hz3 HP
  obtain ⟨g, hg⟩ : ∃ g, g = W0.heap.size := ⟨_, rfl⟩
  rw [← hg] at HM0
  rw [← hg]
  clear hg
  obtain ⟨T, hT⟩ : ∃ T, T = lena + lenb + 2 := ⟨_, rfl⟩
  rw [← hT] at HM0
  rw [← hT]
  have hT1 : lena + lenb + 2 ≤ T := by omega
  have hT2 : T ≤ lena + lenb + 2 := by omega
  clear hT
  go_wp2_with fail
  go_loopw [6, 7, 8, 9, 10, 11] (fun i _ _ _ _ _ W => ∃ ii : Nat, ii ≤ lena ∧ i = .int .i64 ii ∧ ∃ L, MAt w W (.int .i64 s) (.slice a lena capa) (.int .i64 sb) (.slice b lenb capb) g T L ∧ lval L = mulTo la lb ii 0) (fun i _ _ _ _ _ _ => lena - (intOf i).toNat)
  case atStart => exact ⟨0, by omega, rfl, _, HM0.out, by rw [(zeros_ok T).2]; simp [mulTo, vTo]⟩
  case round =>
    obtain ⟨ii, hii, rfl, L, hM, hv⟩ := hrel
    have HM := Lib.hid hM; have HV := Lib.hid hv
    obtain ⟨_, hz3, c0, c1, c2, c3, _⟩ := hM.1
    clear hM hv
    by_cases hlt : ii < lena
    · go_wp2_with fail
      obtain ⟨wo, rfl⟩ : ∃ wo : World, wo = wr := ⟨_, rfl⟩
      clear c0 c1 c2 c3 hz3
      go_loopw [7, 8, 9, 10, 11] (fun k _ _ _ _ W => ∃ kk : Nat, kk ≤ lenb ∧ k = .int .i64 kk ∧ ∃ L, MAt w W (.int .i64 s) (.slice a lena capa) (.int .i64 sb) (.slice b lenb capb) g T L ∧ lval L = mulTo la lb ii kk) (fun k _ _ _ _ _ => lenb - (intOf k).toNat)
      case atStart => exact ⟨0, by omega, rfl, L, HM.out, HV.out⟩
      case round =>
        obtain ⟨kk, hkk, rfl, L2, hM2, hv2⟩ := hrel
        have HM2 := Lib.hid hM2; have HV2 := Lib.hid hv2
        obtain ⟨_, hz3, c0, c1, c2, c3, _⟩ := hM2.1
        clear hM2 hv2
        by_cases hlk : kk < lenb
        · obtain ⟨ga, rfl, hca⟩ := dg_get (HA.out.below HM2.out.b) (j := ii) (by have := EA.out; omega)
          obtain ⟨gb, rfl, hcb⟩ := dg_get (HB.out.below HM2.out.b) (j := kk) (by have := EB.out; omega)
          have hco := HM2.out.cell (j := ii + kk) (by omega)
          have hfo := HM2.out.free (ii + kk)
          obtain ⟨da0, da9⟩ := dg_ok OA.out ii
          obtain ⟨db0, db9⟩ := dg_ok OB.out kk
          obtain ⟨dl0, dl9⟩ := dg_ok HM2.out.2.2.2.1 (ii + kk)
          obtain ⟨pm0, pm9⟩ := mul999 da0 da9 db0 db9
          have HPC := Lib.hid (put_carry (l := L2) (j := ii + kk) (p := dg la ii * dg lb kk) (t := mulTo la lb ii (kk + 1)) (by have := HM2.out.2.2.1; omega) (by rw [HV2.out, mulTo_step]))
          have HLT := Lib.hid (mulTo_lt OA.out OB.out (i := ii) (k := kk + 1) (by have := EA.out; omega) (by have := EB.out; omega))
          have i0' : (0 : Int) ≤ (ii : Int) := by omega
          have i1' : (ii : Int) < (lena : Int) := by omega
          have k0' : (0 : Int) ≤ (kk : Int) := by omega
          have k1' : (kk : Int) < (lenb : Int) := by omega
          have s0' : (0 : Int) ≤ (ii : Int) + (kk : Int) := by omega
          have s1' : (ii : Int) + (kk : Int) < (T : Int) := by omega
          have wm : IntKind.i64.wrap (dg la ii * dg lb kk) = dg la ii * dg lb kk := wrap_i (by omega) (by omega)
          go_upto_region 8 with fail
          have ws : IntKind.i64.wrap ((ii : Int) + (kk : Int)) = (ii : Int) + (kk : Int) := wrap_i (by omega) (by omega)
          have wt : ((ii : Int) + (kk : Int)).toNat = ii + kk := by omega
          have wn : IntKind.i64.wrap (dg L2 (ii + kk) + dg la ii * dg lb kk) = dg L2 (ii + kk) + dg la ii * dg lb kk := wrap_i (by omega) (by omega)
          go_quiet (fail)
          clear ws wt wn wm
          have HM3 := Lib.hid (HM2.out.drewN nq)
          obtain ⟨Wq, hWq⟩ : ∃ Wq, Wq = wr.drewN nq := ⟨_, rfl⟩
          rw [← hWq] at HM3
          rw [← hWq]
          clear hWq c0 c1 c2 c3 hz3 hca hcb hco hfo HM2 HV2
          have n0 : 0 ≤ dg L2 (ii + kk) + dg la ii * dg lb kk := by omega
          have n9 : dg L2 (ii + kk) + dg la ii * dg lb kk ≤ 999000 := by omega
          clear pm0 pm9 da0 da9 db0 db9 dl0 dl9
          generalize dg L2 (ii + kk) + dg la ii * dg lb kk = D at *
          have hco := HM3.out.cell (j := ii + kk) (by omega)
          have hfo := HM3.out.free (ii + kk)
          have HM4 := Lib.hid (HM3.out.put (ii + kk) (x := D % 1000) (by omega) (by omega))
          go_wp2_with fail
          obtain ⟨We, hWe⟩ : ∃ We, We = Wq.setCell ⟨g, ii + kk, none⟩ (.int .i64 (D % 1000)) := ⟨_, rfl⟩
          rw [← hWe] at HM4
          rw [← hWe]
          clear hWe hco hfo HM3
          go_loopw [9, 10, 11] (fun j o _ W => ∃ (jj : Nat) (ov : Int), jj ≤ T ∧ 0 ≤ ov ∧ ov ≤ 999 ∧ j = .int .i64 jj ∧ o = .int .i64 ov ∧ ∃ L, MAt w W (.int .i64 s) (.slice (some ⟨ga, 0, none⟩) lena capa) (.int .i64 sb) (.slice (some ⟨gb, 0, none⟩) lenb capb) g T L ∧ lval L + ov * 1000 ^ jj = mulTo la lb ii (kk + 1)) (fun j _ _ _ => T + 1 - (intOf j).toNat)
          case atStart => exact ⟨ii + kk + 1, D / 1000, by omega, by omega, by omega, by go_num, rfl, _, HM4.out, HPC.out⟩
          case round =>
            obtain ⟨jj, ov, hjj, v0, v9, rfl, rfl, L5, hM5, hv5⟩ := hrel
            have HM5 := Lib.hid hM5; have HV5 := Lib.hid hv5
            clear hM5 hv5
            by_cases hov : ov = 0
            · subst hov
              have HV6 : Hid (lval L5 = mulTo la lb ii (kk + 1)) := by show _ = _; rw [← HV5.out]; omega
              go_wp2_with fail
              go_roundw
              case rel => exact ⟨kk + 1, by omega, by go_num, L5, HM5.out, HV6.out⟩
              case measure => simp [intOf]; omega
            · have hov1 : 1 ≤ ov := by omega
              have hin := carry_in HM5.out.2.2.2.1 hov1 HLT.out HV5.out
              have hjT : jj < T := by have := EA.out; have := EB.out; omega
              have hco := HM5.out.cell (j := jj) hjT
              have hfo := HM5.out.free jj
              obtain ⟨dl0, dl9⟩ := dg_ok HM5.out.2.2.2.1 jj
              have HPC2 := Lib.hid (put_carry (l := L5) (j := jj) (p := ov) (by have := HM5.out.2.2.1; omega) HV5.out)
              have HM6 := Lib.hid (HM5.out.put jj (x := (dg L5 jj + ov) % 1000) (by omega) (by omega))
              have j0' : (0 : Int) ≤ (jj : Int) := by omega
              have j1' : (jj : Int) < (T : Int) := by omega
              clear hov hin HV5 HM5
              go_wp2_with fail
              go_roundw
              case rel => exact ⟨jj + 1, (dg L5 jj + ov) / 1000, by omega, by omega, by omega, by go_num, rfl, _, HM6.out, HPC2.out⟩
              case measure => simp [intOf]; omega
        · obtain rfl : kk = lenb := by omega
          have HV3 : Hid (lval L2 = mulTo la lb (ii + 1) 0) := by show _ = _; rw [HV2.out, ← mulTo_row, EB.out]
          go_wp2_with fail
          go_roundw
          case rel => exact ⟨ii + 1, by omega, by go_num, L2, HM2.out, HV3.out⟩
          case measure => simp [intOf]; omega
    · obtain rfl : ii = lena := by omega
      have HV3 : Hid (lval L = lval la * lval lb) := by show _ = _; rw [HV.out, ← EA.out, mulTo_end]
      obtain ⟨hl1, hD⟩ := own_dg HM.out.own
      have HC := Lib.hid (made_gen p g T L (by rw [HV3.out]; exact HS.out) wr hD HM.out.2.2.2.1 (by omega))
      rw [← hl1, HV3.out] at HC
      clear hD hl1
      have hwp := HW.out
      go_wp2_with fail
      clear hwp
      refine HC.out.mono ?_
      rintro e w5 ⟨s', a2, len2, cap2, rfl, hE, hb1⟩
      have HE1 := Lib.hid hE
      have HP1 := Lib.hid (HM.out.1.up hb1 HM.out.1.2.1)
      clear hE hb1 c0 c1 c2 c3
      obtain ⟨d0, d1, g0, g1⟩ := HP1.out.2.2.2.2.2.2.1
      go_wp2_with fail
      exact bodyPost_ret (v := .agg #[.int .i64 s', .slice a2 len2 cap2]) (by simp [results, Try.results54, go_sem, d0, d1]) rfl
        ⟨s', a2, len2, cap2, rfl, ex_store HP1.out.2.2.2.2.2.2 HE1.out _ _, (HP1.out.1.setCell (by show w.heap.size ≤ w.heap.size + 1 + 1; omega) _).setCell (by show w.heap.size ≤ w.heap.size + 1 + 1; omega) _⟩

theorem by_ex (s sb n m : Int) (a b : Option Addr) (lena lenb capa capb : Nat) (w : World) (ha : Ex w s a lena capa n) (hb : Ex w sb b lenb capb m) (hn : Small n) (hm : Small m) :
    Calls Try.prog 54 #[.agg #[.int .i64 s, .slice a lena capa], .agg #[.int .i64 sb, .slice b lenb capb]] w (ExPost w (n * m)) := by
  have l1 := ex_len ha hn
  have l2 := ex_len hb hm
  have ga := ex_sign ha
  have gb := ex_sign hb
  obtain ⟨_, la, e1, d1, o1, _, v1⟩ := ha
  obtain ⟨_, lb, e2, d2, o2, _, v2⟩ := hb
  have hsp : s * sb = 0 ∨ s * sb = 1 ∨ s * sb = -1 := by
    rcases ga with ⟨rfl, _⟩ | ⟨rfl | rfl, _⟩ <;> rcases gb with ⟨rfl, _⟩ | ⟨rfl | rfl, _⟩ <;> simp
  have hw : wrap64 (s * sb) = s * sb := IntWalk.wrap64_in _ ⟨by omega, by omega⟩
  have hnm : n * m = s * sb * (lval la * lval lb) := by
    rcases ga with ⟨rfl, rfl⟩ | ⟨_, en⟩
    · simp
    · rcases gb with ⟨rfl, rfl⟩ | ⟨_, em⟩
      · simp
      · rw [← v1] at en; rw [← v2] at em
        rw [en, em, Int.mul_assoc, Int.mul_assoc]
        congr 1
        rw [← Int.mul_assoc, ← Int.mul_assoc, Int.mul_comm (lval la)]
  rw [hnm]
  refine by_raw s sb (s * sb) a b lena lenb capa capb la lb w hw ?_ d1 d2 o1 o2 e1 e2 l1 l2
  intro hne
  rcases ga with ⟨_, rfl⟩ | ⟨hs, _⟩
  · simp at v1; rw [v1] at hne; simp at hne
  · rcases gb with ⟨_, rfl⟩ | ⟨hs2, _⟩
    · simp at v2; rw [v2] at hne; simp at hne
    · rcases hs with rfl | rfl <;> rcases hs2 with rfl | rfl <;> simp
end Go.Proofs.Ytobdcogaphkogaa
