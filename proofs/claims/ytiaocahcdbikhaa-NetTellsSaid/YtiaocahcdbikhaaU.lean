/- Contracts: Plus, of one sign. -/
import Derived.Test.YtiaocahcdbikhaaT
namespace Go.Proofs.Ytiaocahcdbikhaa
open Go.RowKit

theorem Dg.drewN {W : World} {a : Option Addr} {cap : Nat} {l : List Int} (h : Dg W a cap l) (n : Nat) : Dg (W.drewN n) a cap l := by
  rcases h with h | ⟨g, h1, h2, h4, h3⟩
  · exact .inl h
  · exact .inr ⟨g, h1, h2, h4, fun i hi => h3 i hi⟩

/-- Plus's own blocks: both arguments, and its result -/
def PHead (w W : World) (sa va sb vb : Value) : Prop :=
  Below w.heap.size w W ∧ w.heap.size + 3 ≤ W.heap.size ∧ W.cell? ⟨w.heap.size, 0, none⟩ = some sa ∧ W.cell? ⟨w.heap.size, 1, none⟩ = some va ∧
  W.cell? ⟨w.heap.size + 1, 0, none⟩ = some sb ∧ W.cell? ⟨w.heap.size + 1, 1, none⟩ = some vb ∧ Res W (w.heap.size + 2)
theorem PHead.up {w W W' : World} {sa va sb vb : Value} {B : Nat} (h : PHead w W sa va sb vb) (hb : Below B W W') (hB : w.heap.size + 3 ≤ B) : PHead w W' sa va sb vb := by
  obtain ⟨h1, h2, h3, h4, h5, h6, h7⟩ := h
  exact ⟨h1.trans (hb.mono (by omega)), Nat.le_trans h2 hb.size, (hb.cell (p := ⟨w.heap.size, 0, none⟩) (by show w.heap.size < B; omega)).trans h3, (hb.cell (p := ⟨w.heap.size, 1, none⟩) (by show w.heap.size < B; omega)).trans h4,
    (hb.cell (p := ⟨w.heap.size + 1, 0, none⟩) (by show w.heap.size + 1 < B; omega)).trans h5, (hb.cell (p := ⟨w.heap.size + 1, 1, none⟩) (by show w.heap.size + 1 < B; omega)).trans h6, h7.up hb (by omega)⟩
theorem phead_start (w : World) (sa va sb vb : Value) :
    PHead w (((w.alloc (.cells #[sa, va] 50)).alloc (.cells #[sb, vb] 50)).alloc (.cells #[.int .i64 0, .slice none 0 0] 50)) sa va sb vb := by
  have h1 := Row2.new w sa va 50
  have h2 := Row2.new (w.alloc (.cells #[sa, va] 50)) sb vb 50
  have h3 := Res.start ((w.alloc (.cells #[sa, va] 50)).alloc (.cells #[sb, vb] 50))
  have b1 : Below (w.alloc (.cells #[sa, va] 50)).heap.size (w.alloc (.cells #[sa, va] 50)) ((w.alloc (.cells #[sa, va] 50)).alloc (.cells #[sb, vb] 50)) := (Below.refl _ _).alloc (Nat.le_refl _) _
  have b2 : Below ((w.alloc (.cells #[sa, va] 50)).alloc (.cells #[sb, vb] 50)).heap.size ((w.alloc (.cells #[sa, va] 50)).alloc (.cells #[sb, vb] 50)) (((w.alloc (.cells #[sa, va] 50)).alloc (.cells #[sb, vb] 50)).alloc (.cells #[.int .i64 0, .slice none 0 0] 50)) := (Below.refl _ _).alloc (Nat.le_refl _) _
  have g1 := (h1.below b1).below b2
  have g2 := h2.below b2
  simp only [World.size_alloc] at g2 h3
  exact ⟨(((Below.refl _ _).alloc (Nat.le_refl _) _).alloc (by simp) _).alloc (by simp; omega) _, by simp, g1.1, g1.2.1, g2.1, g2.2.1, h3⟩

/-- the digits gathered so far, in blocks from w.heap.size + 3 on -/
def Gath (w W : World) (sa va sb vb v : Value) (l : List Int) : Prop := PHead w W sa va sb vb ∧ Own W (w.heap.size + 3) v l ∧ DigOk l
theorem gath_start {w W : World} {sa va sb vb : Value} (h : PHead w W sa va sb vb) : Gath w (W.alloc (.cells #[] 3)) sa va sb vb (.slice (some ⟨W.heap.size, 0, none⟩) 0 0) [] := by
  refine ⟨h.up ((Below.refl _ _).alloc (Nat.le_refl _) _) h.2.1, ?_, fun d hd => by simp at hd⟩
  exact World.ownsRow_lit (e := 3) (size := 1) (base := w.heap.size + 3) W #[] 0 h.2.1 (by unfold maxLen; omega) rfl
theorem Own.drewN {W : World} {B : Nat} {v : Value} {l : List Int} (h : Own W B v l) (n : Nat) : Own (W.drewN n) B v l := h
theorem gath_step {w W w1 : World} {sa va sb vb v v' : Value} {l : List Int} {x : Int} {o : Obj} (h : Gath w W sa va sb vb v l) (h0 : 0 ≤ x) (h9 : x ≤ 999)
    (h1 : w1.ownsRow (w.heap.size + 3) 3 1 v' (l.length + 1) (l.map (Value.int .i64) ++ [.int .i64 x])) (h2 : (W.alloc o).grownBy w1 v.ownBlock) : Gath w w1 sa va sb vb v' (l ++ [x]) := by
  obtain ⟨hP, hO, hD⟩ := h
  have hb : Below (w.heap.size + 3) W w1 := ((Below.refl _ _).alloc hP.2.1 o).grown h2 (by simp; have := hP.2.1; omega) (fun k hk => (hO.lt k hk).1)
  refine ⟨hP.up hb (Nat.le_refl _), ?_, digOk_snoc hD h0 h9⟩
  unfold Own; rw [List.length_append, List.length_singleton, List.map_append]; exact h1
theorem PHead.drewN {w W : World} {sa va sb vb : Value} (h : PHead w W sa va sb vb) (n : Nat) : PHead w (W.drewN n) sa va sb vb :=
  h.up (below_drewN (Below.refl _ _) n) (Nat.le_refl (w.heap.size + 3))
theorem Gath.drewN {w W : World} {sa va sb vb v : Value} {l : List Int} (h : Gath w W sa va sb vb v l) (n : Nat) : Gath w (W.drewN n) sa va sb vb v l := ⟨h.1.drewN n, h.2.1.drewN n, h.2.2⟩

def PlusAt (w : World) (sa va sb vb : Value) (la lb : List Int) (v : Value) (over : Int) (i : Nat) (W : World) : Prop :=
  ∃ l, Gath w W sa va sb vb v l ∧ l.length = i ∧ 0 ≤ over ∧ over ≤ 1 ∧ lval l + over * 1000 ^ i = vTo la i + vTo lb i

set_option maxRecDepth 100000 in
set_option maxHeartbeats 800000 in
theorem plus_same (s n : Int) (a b : Option Addr) (lena lenb capa capb : Nat) (la lb : List Int) (w : World) (hs : s = 1 ∨ s = -1) (ha : Dg w a capa la) (hb : Dg w b capb lb) (oa : DigOk la) (ob : DigOk lb) (ea : la.length = lena) (eb : lb.length = lenb) (h1 : lena ≤ 900) (h2 : lenb ≤ 900)
    (hn : n = s * (lval la + lval lb)) (M : Nat) (hM : (lena < lenb ∧ M = lenb) ∨ (lenb ≤ lena ∧ M = lena)) :
    Calls Try.prog 20 #[.agg #[.int .i64 s, .slice a lena capa], .agg #[.int .i64 s, .slice b lenb capb]] w (ExPost w n) := by
  obtain ⟨i0, hi, hz0, hz1, hz2⟩ := info_parts Try.infoInt
  have HA := Lib.hid ha; have HB := Lib.hid hb; have OA := Lib.hid oa; have OB := Lib.hid ob; have EA := Lib.hid ea; have EB := Lib.hid eb; have HN := Lib.hid hn; have HS := Lib.hid hs; have HM := Lib.hid hM
  have hsz : (s == 0) = false := by rw [beq_eq_false_iff_ne]; omega
  clear ha hb oa ob ea eb hn hs hM
  have HP := Lib.hid (phead_start w (.int .i64 s) (.slice a lena capa) (.int .i64 s) (.slice b lenb capb))
  go_enter Try.func20, Try.ntmps20
  go_upto_region 5 with fail
  obtain ⟨W0, hW0⟩ : ∃ W0, W0 = (((w.alloc (.cells #[.int .i64 s, .slice a lena capa] 50)).alloc (.cells #[.int .i64 s, .slice b lenb capb] 50)).alloc (.cells #[.int .i64 0, .slice none 0 0] 50)) := ⟨_, rfl⟩
  rw [← hW0] at HP
  rw [← hW0]
  clear hW0
  go_upto_region 6 with fail
  have HG := Lib.hid (gath_start HP.out)
  obtain ⟨W1, hW1⟩ : ∃ W1, W1 = W0.alloc (.cells #[] 3) := ⟨_, rfl⟩
  rw [← hW1] at HG
  rw [← hW1]
  clear hW1
  obtain ⟨_, hz3, c0, c1, c2, c3, _⟩ := HG.out.1
  go_wp2_with fail
  clear c0 c1 c2 c3 hz3
  go_loopw [5, 6, 7, 8] (fun v o i _ W => ∃ (k : Nat) (ov : Int), k ≤ M + 1 ∧ i = .int .i64 k ∧ o = .int .i64 ov ∧ PlusAt w (.int .i64 s) (.slice a lena capa) (.int .i64 s) (.slice b lenb capb) la lb v ov k W) (fun _ _ i _ _ => M + 2 - (intOf i).toNat)
  case atStart => exact ⟨0, 0, by omega, rfl, rfl, [], HG.out, rfl, by omega, by omega, by simp [lval, vTo]⟩
  case round =>
    obtain ⟨k, ov, hk, rfl, rfl, hA⟩ := hrel
    obtain ⟨l, hG, hl, o0, o1, hv⟩ := hA
    have hMb : M ≤ 900 ∧ lena ≤ M ∧ lenb ≤ M := by have := HM.out; omega
    obtain ⟨m1, m2, m3⟩ := hMb
    have HV := Lib.hid hv; have HL := Lib.hid hl; have HGa := Lib.hid hG
    clear hv
    obtain ⟨_, hz3, c0, c1, c2, c3, _⟩ := hG.1
    have hbw : Below w.heap.size w wr := hG.1.1
    have DA := Lib.hid (HA.out.below hbw); have DB := Lib.hid (HB.out.below hbw)
    clear hbw hG
    by_cases hkM : k ≤ M
    · have da := dg_ok OA.out k; have db := dg_ok OB.out k
      obtain ⟨da0, da9⟩ := da
      obtain ⟨db0, db9⟩ := db
      have hl' : l.length ≤ 901 := by omega
      clear hl
      rcases HM.out with ⟨q1, rfl⟩ | ⟨q1, rfl⟩
      all_goals
        go_upto_region 11 with fail
        go_quiet (first | (go_at_call 32; with_reducible exact quiet_left (at_k (DA.out.drewN _) k _ EA.out)) | (go_at_call 32; with_reducible exact quiet_left (at_k (DB.out.drewN _) k _ EB.out)))
        have HG2 := Lib.hid (HGa.out.drewN nq)
        obtain ⟨Wq, hWq⟩ : ∃ Wq, Wq = wr.drewN nq := ⟨_, rfl⟩
        rw [← hWq] at HG2
        rw [← hWq]
        clear hWq c0 c1 c2 c3 hz3 DA DB HGa
        have HV2 := Lib.hid (plus_step (over := ov) HL.out HV.out)
        clear HV
        have D0 : 0 ≤ dg la k + dg lb k + ov := by omega
        have D9 : dg la k + dg lb k + ov ≤ 1999 := by omega
        clear da0 da9 db0 db9 o0 o1
        generalize dg la k + dg lb k + ov = D at *
        have hown := HG2.out.2.1
        have HST : Hid (∀ (v' : Value) (w1 : World), w1.ownsRow (w.heap.size + 3) 3 1 v' (l.length + 1) (l.map (Value.int .i64) ++ [.int .i64 (D % 1000)]) → (Wq.alloc (.cells #[.int .i64 (D % 1000)] 3)).grownBy w1 u5.ownBlock → Gath w w1 (.int .i64 s) (.slice a _ capa) (.int .i64 s) (.slice b _ capb) v' (l ++ [D % 1000])) :=
          fun v' w1 g1 g2 => gath_step HG2.out (by omega) (by omega) g1 g2
        have hB : w.heap.size + 3 ≤ Wq.heap.size := HG2.out.1.2.1
        clear HG2
        go_wp2_with (first | (at_builtin; refine wpList_append_own _ rfl _ _ 48 rfl (w.heap.size + 3) 3 i0 (.int .i64 0) 1 8 Try.underlying48 hi hz0 hz1 hz2 rfl (by decide) _ _ _ rfl (World.ownsRow.alloc hown _) ⟨Wq.heap.size, 0, none⟩ 1 1 [.int .i64 (D % 1000)] rfl rfl (one_news _ _ _) (one_cell _) ?c3 ?c4 ?c5 ?_))
        case c3 => unfold maxLen; omega
        case c4 => omega
        case c5 => omega
        intro v' w1 hown' hgrow _
        have HN2 := Lib.hid (HST.out v' w1 hown' hgrow)
        clear hown' hgrow hown HST
        go_wp2_with fail
        go_roundw
        case rel => exact ⟨k + 1, D / 1000, by omega, by go_num, rfl, l ++ [D % 1000], HN2.out, by rw [List.length_append, HL.out]; rfl, by omega, by omega, HV2.out⟩
        case measure => simp [intOf]; omega
    · have hkM2 : k = M + 1 := by omega
      subst hkM2
      have HE := Lib.hid (plus_end (i := M) (over := ov) OA.out OB.out HGa.out.2.2 o0 (by have := EA.out; omega) (by have := EB.out; omega) HV.out)
      have hl' : l.length ≤ 901 := by omega
      obtain ⟨a', cap', rfl⟩ := own_form HGa.out.2.1
      have HC := Lib.hid (made_any s HS.out HGa.out.2.1 HGa.out.2.2 (by omega) n (by rw [HE.out]; exact HN.out))
      clear hl HV HL
      rcases HM.out with ⟨q1, rfl⟩ | ⟨q1, rfl⟩
      all_goals
        go_wp2_with fail
        refine HC.out.mono ?_
        rintro e w1 ⟨s', a2, len2, cap2, rfl, hE, hb1⟩
        have HE1 := Lib.hid hE
        have HP1 := Lib.hid (HGa.out.1.up hb1 HGa.out.1.2.1)
        clear hE hb1 c0 c1 c2 c3
        obtain ⟨d0, d1, g0, g1⟩ := HP1.out.2.2.2.2.2.2.1
        go_wp2_with fail
        exact bodyPost_ret (v := .agg #[.int .i64 s', .slice a2 len2 cap2]) (by simp [results, Try.results20, go_sem, d0, d1]) rfl
          ⟨s', a2, len2, cap2, rfl, ex_store HP1.out.2.2.2.2.2.2 HE1.out _ _, (HP1.out.1.setCell (by show w.heap.size ≤ w.heap.size + 1 + 1; omega) _).setCell (by show w.heap.size ≤ w.heap.size + 1 + 1; omega) _⟩
end Go.Proofs.Ytiaocahcdbikhaa
