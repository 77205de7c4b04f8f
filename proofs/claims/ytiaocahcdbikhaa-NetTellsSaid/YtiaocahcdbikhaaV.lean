/- Contracts: Plus, of two signs. -/
import Derived.Test.YtiaocahcdbikhaaU
namespace Go.Proofs.Ytiaocahcdbikhaa
open Go.RowKit

def LessAt (w : World) (sa va sb vb : Value) (la lb : List Int) (v : Value) (bo : Int) (i : Nat) (W : World) : Prop :=
  ∃ l, Gath w W sa va sb vb v l ∧ l.length = i ∧ 0 ≤ bo ∧ bo ≤ 1 ∧ lval l = vTo la i - vTo lb i + bo * 1000 ^ i

theorem least_no (a b : Option Addr) (lena lenb capa capb : Nat) (la lb : List Int) (w : World) (ha : Dg w a capa la) (hb : Dg w b capb lb) (oa : DigOk la) (ob : DigOk lb) (ea : la.length = lena) (eb : lb.length = lenb) (h1 : lena ≤ 1000) (h2 : lenb ≤ 1000) (h : lval lb ≤ lval la) :
    Calls Try.prog 34 #[.slice a lena capa, .slice b lenb capb] w fun e w' => e = .returned (.bool false) ∧ w = w' := by
  have := least_any a b lena lenb capa capb la lb w ha hb oa ob ea eb h1 h2
  rw [decide_eq_false (by omega)] at this
  exact this
theorem least_yes (a b : Option Addr) (lena lenb capa capb : Nat) (la lb : List Int) (w : World) (ha : Dg w a capa la) (hb : Dg w b capb lb) (oa : DigOk la) (ob : DigOk lb) (ea : la.length = lena) (eb : lb.length = lenb) (h1 : lena ≤ 1000) (h2 : lenb ≤ 1000) (h : lval la < lval lb) :
    Calls Try.prog 34 #[.slice a lena capa, .slice b lenb capb] w fun e w' => e = .returned (.bool true) ∧ w = w' := by
  have := least_any a b lena lenb capa capb la lb w ha hb oa ob ea eb h1 h2
  rw [decide_eq_true h] at this
  exact this

set_option maxRecDepth 100000 in
set_option maxHeartbeats 800000 in
theorem plus_ge (s sb n : Int) (a b : Option Addr) (lena lenb capa capb : Nat) (la lb : List Int) (w : World) (hs : s = 1 ∨ s = -1) (hsb : (sb == 0) = false) (hne : (s == sb) = false) (ha : Dg w a capa la) (hb : Dg w b capb lb) (oa : DigOk la) (ob : DigOk lb) (ea : la.length = lena) (eb : lb.length = lenb) (h1 : lena ≤ 900) (h2 : lenb ≤ 900)
    (hle : lval lb ≤ lval la) (hn : n = s * (lval la - lval lb)) :
    Calls Try.prog 20 #[.agg #[.int .i64 s, .slice a lena capa], .agg #[.int .i64 sb, .slice b lenb capb]] w (ExPost w n) := by
  obtain ⟨i0, hi, hz0, hz1, hz2⟩ := info_parts Try.infoInt
  have HA := Lib.hid ha; have HB := Lib.hid hb; have OA := Lib.hid oa; have OB := Lib.hid ob; have EA := Lib.hid ea; have EB := Lib.hid eb; have HN := Lib.hid hn; have HS := Lib.hid hs; have HLE := Lib.hid hle
  have hsz : (s == 0) = false := by rw [beq_eq_false_iff_ne]; omega
  clear ha hb oa ob ea eb hn hs hle
  have HP := Lib.hid (phead_start w (.int .i64 s) (.slice a lena capa) (.int .i64 sb) (.slice b lenb capb))
  go_enter Try.func20, Try.ntmps20
  go_upto_region 5 with fail
  obtain ⟨W0, hW0⟩ : ∃ W0, W0 = (((w.alloc (.cells #[.int .i64 s, .slice a lena capa] 50)).alloc (.cells #[.int .i64 sb, .slice b lenb capb] 50)).alloc (.cells #[.int .i64 0, .slice none 0 0] 50)) := ⟨_, rfl⟩
  rw [← hW0] at HP
  rw [← hW0]
  clear hW0
  go_upto_region 6 with fail
  have HG := Lib.hid (gath_start HP.out)
  obtain ⟨W1, hW1⟩ : ∃ W1, W1 = W0.alloc (.cells #[] 3) := ⟨_, rfl⟩
  rw [← hW1] at HG
  rw [← hW1]
  clear hW1
  obtain ⟨_, hz3, c0, c1, c2, c3, _⟩ := HG.out.1
  go_wp2_with fail
  refine (least_no a b lena lenb capa capb la lb _ (HA.out.below HG.out.1.1) (HB.out.below HG.out.1.1) OA.out OB.out EA.out EB.out (by omega) (by omega) HLE.out).mono ?_
  rintro _ _ ⟨rfl, rfl⟩
  go_wp2_with fail
  clear c0 c1 c2 c3 hz3
  go_loopw [5, 9, 10, 11] (fun v o i _ W => ∃ (k : Nat) (bo : Int), k ≤ lena ∧ i = .int .i64 k ∧ o = .int .i64 bo ∧ LessAt w (.int .i64 s) (.slice a lena capa) (.int .i64 sb) (.slice b lenb capb) la lb v bo k W) (fun _ _ i _ _ => lena - (intOf i).toNat)
  case atStart => exact ⟨0, 0, by omega, rfl, rfl, [], HG.out, rfl, by omega, by omega, by simp [lval, vTo]⟩
  case round =>
    obtain ⟨k, bo, hk, rfl, rfl, hA⟩ := hrel
    obtain ⟨l, hG, hl, o0, o1, hv⟩ := hA
    have HV := Lib.hid hv; have HL := Lib.hid hl; have HGa := Lib.hid hG
    clear hv
    obtain ⟨_, hz3, c0, c1, c2, c3, _⟩ := hG.1
    have hbw : Below w.heap.size w wr := hG.1.1
    have DA := Lib.hid (HA.out.below hbw); have DB := Lib.hid (HB.out.below hbw)
    clear hbw hG
    by_cases hkM : k < lena
    · have da := dg_ok OA.out k; have db := dg_ok OB.out k
      obtain ⟨da0, da9⟩ := da
      obtain ⟨db0, db9⟩ := db
      have hl' : l.length ≤ 901 := by omega
      clear hl
      obtain ⟨g, rfl, hcell⟩ : ∃ g, a = some ⟨g, 0, none⟩ ∧ wr.cell? ⟨g, k, none⟩ = some (.int .i64 (dg la k)) := by
        rcases DA.out with ⟨q1, q2⟩ | ⟨g, q1, _, _, q4⟩
        · have := EA.out; rw [q2] at this; simp at this; omega
        · exact ⟨g, q1, q4 k (by have := EA.out; omega)⟩
      have hk0 : (0 : Int) ≤ (k : Int) := by omega
      have hk1 : (k : Int) < (lena : Int) := by omega
      go_upto_region 21 with fail
      go_quiet (first | (go_at_call 32; with_reducible exact quiet_left (at_k (DB.out.drewN _) k _ EB.out)))
      have HG2 := Lib.hid (HGa.out.drewN nq)
      obtain ⟨Wq, hWq⟩ : ∃ Wq, Wq = wr.drewN nq := ⟨_, rfl⟩
      rw [← hWq] at HG2
      rw [← hWq]
      clear hWq c0 c1 c2 c3 hz3 DA DB HGa hcell
      have HV2 := Lib.hid (less_step (borrow := bo) HL.out HV.out)
      clear HV
      have D0 : 0 ≤ 1000 + dg la k - dg lb k - bo := by omega
      have D9 : 1000 + dg la k - dg lb k - bo ≤ 1999 := by omega
      clear da0 da9 db0 db9 o0 o1
      generalize 1000 + dg la k - dg lb k - bo = D at *
      have hown := HG2.out.2.1
      have HST : Hid (∀ (v' : Value) (w1 : World), w1.ownsRow (w.heap.size + 3) 3 1 v' (l.length + 1) (l.map (Value.int .i64) ++ [.int .i64 (D % 1000)]) → (Wq.alloc (.cells #[.int .i64 (D % 1000)] 3)).grownBy w1 u5.ownBlock → Gath w w1 (.int .i64 s) (.slice _ _ capa) (.int .i64 sb) (.slice b _ capb) v' (l ++ [D % 1000])) :=
        fun v' w1 g1 g2 => gath_step HG2.out (by omega) (by omega) g1 g2
      have hB : w.heap.size + 3 ≤ Wq.heap.size := HG2.out.1.2.1
      clear HG2
      go_wp2_with (first | (at_builtin; refine wpList_append_own _ rfl _ _ 48 rfl (w.heap.size + 3) 3 i0 (.int .i64 0) 1 8 Try.underlying48 hi hz0 hz1 hz2 rfl (by decide) _ _ _ rfl (World.ownsRow.alloc hown _) ⟨Wq.heap.size, 0, none⟩ 1 1 [.int .i64 (D % 1000)] rfl rfl (one_news _ _ _) (one_cell _) ?c3 ?c4 ?c5 ?_))
      case c3 => unfold maxLen; omega
      case c4 => omega
      case c5 => simp; omega
      intro v' w1 hown' hgrow _
      have HN2 := Lib.hid (HST.out v' w1 hown' hgrow)
      clear hown' hgrow hown HST
      go_wp2_with fail
      go_roundw
      case rel => exact ⟨k + 1, 1 - D / 1000, by omega, by go_num, rfl, l ++ [D % 1000], HN2.out, by rw [List.length_append, HL.out]; rfl, by omega, by omega, HV2.out⟩
      case measure => simp [intOf]; omega
    · obtain rfl : k = lena := by omega
      have HE := Lib.hid (less_end (borrow := bo) OA.out OB.out HGa.out.2.2 o0 (by rw [HL.out, EA.out]) HLE.out (by rw [EA.out]; exact HV.out))
      obtain ⟨a', cap', rfl⟩ := own_form HGa.out.2.1
      have HC := Lib.hid (made_any s HS.out HGa.out.2.1 HGa.out.2.2 (by omega) n (by rw [HE.out]; exact HN.out))
      clear hl HV HL
      go_wp2_with fail
      refine HC.out.mono ?_
      rintro e w1 ⟨s', a2, len2, cap2, rfl, hE, hb1⟩
      have HE1 := Lib.hid hE
      have HP1 := Lib.hid (HGa.out.1.up hb1 HGa.out.1.2.1)
      clear hE hb1 c0 c1 c2 c3
      obtain ⟨d0, d1, g0, g1⟩ := HP1.out.2.2.2.2.2.2.1
      go_wp2_with fail
      exact bodyPost_ret (v := .agg #[.int .i64 s', .slice a2 len2 cap2]) (by simp [results, Try.results20, go_sem, d0, d1]) rfl
        ⟨s', a2, len2, cap2, rfl, ex_store HP1.out.2.2.2.2.2.2 HE1.out _ _, (HP1.out.1.setCell (by show w.heap.size ≤ w.heap.size + 1 + 1; omega) _).setCell (by show w.heap.size ≤ w.heap.size + 1 + 1; omega) _⟩
end Go.Proofs.Ytiaocahcdbikhaa
