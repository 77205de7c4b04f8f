/- price, Likely, Mean. -/
import Derived.Test.YthogokflobnfpaaCoC
namespace Go.Proofs.Ythogokflobnfpaa
open Go.RowKit

theorem sumTo_L (z : List Int) : ∀ k, k ≤ z.length → sumTo (fun k => (z[k]?).getD 0) k = sumL (z.take k)
  | 0, _ => by simp [sumTo, sumL]
  | k + 1, hk => by
    have hx : z[k]? = some z[k] := List.getElem?_eq_getElem (by omega)
    rw [sumTo, sumTo_L z k (by omega), List.take_add_one, hx, sumL_append]
    simp [sumL]
theorem OwI.form {W : World} {B : Nat} {v : Value} {z : List Int} (h : OwI W B v z) (hz : 0 < z.length) : ∃ g c, v = .slice (some ⟨g, 0, none⟩) z.length c ∧ ∀ k, k < z.length → W.cell? ⟨g, k, none⟩ = some (.int .i64 ((z[k]?).getD 0)) := by
  have h0 := h
  rcases h.2 with ⟨e, e0⟩ | ⟨g, cp, cur, e, _⟩
  · omega
  · subst e
    refine ⟨g, cp, rfl, fun k hk => ?_⟩
    rw [World.ownsRow.cellAt (w := W) h0 k (by rw [Nat.mul_one]; exact hk), List.getElem?_map, List.getElem?_eq_getElem hk]; rfl
theorem owi_sum {W : World} {B : Nat} {v : Value} {z : List Int} (h : OwI W B v z) (hz : 0 < z.length) (h2 : z.length ≤ 1000) (ha : ∀ x ∈ z, Am x) :
    Calls Try.prog 22 #[v] W fun e w' => e = .returned (.tuple #[.int .i64 (tellV (sumL z)), .int .i64 (tellE (sumL z))]) ∧ Below W.heap.size W w' := by
  obtain ⟨g, c, rfl, hc⟩ := h.form hz
  have hs := sumTo_L z z.length (Nat.le_refl _)
  rw [List.take_length] at hs
  rw [← hs]
  refine sum_some _ (fun k => ?_) g 0 z.length c W (by omega) (fun k hk => by rw [Nat.zero_add]; exact hc k hk)
  show Am ((z[k]?).getD 0)
  cases q : z[k]? with
  | none => exact am_small (by decide) (by decide)
  | some x => exact ha x (List.mem_of_getElem? q)
theorem tell_am64 {s : Int} (h : am64 s = true) : tellV s = s ∧ tellE s = 0 := by
  have : -9223372036854775808 ≤ s ∧ s ≤ 9223372036854775807 := by simpa [am64] using h
  unfold tellV tellE
  rw [if_pos this, if_pos this]; exact ⟨rfl, rfl⟩
theorem tell_no64 {s : Int} (h : am64 s = false) : tellV s = 0 ∧ tellE s = 3 := by
  have : ¬ (-9223372036854775808 ≤ s ∧ s ≤ 9223372036854775807) := fun z => by
    have : am64 s = true := by simpa [am64] using z
    rw [h] at this; cases this
  unfold tellV tellE
  rw [if_neg this, if_neg this]; exact ⟨rfl, rfl⟩
theorem outP_am {c : Mb → Int} {l : List Mb} (hp : ∀ x ∈ l, 0 ≤ c x ∧ c x ≤ 10000) (ha : ∀ x ∈ l, Am x.am) (hn : l.length ≤ 32) : ∀ x ∈ outP c l, Am x := fun x hx => by
  unfold outP at hx
  rcases List.mem_append.1 hx with hx | hx
  · obtain ⟨y, hy, rfl⟩ := List.mem_map.1 hx
    exact cP_am (ha y hy) (hp y hy).1 (hp y hy).2
  · have := rests_in c l
    obtain rfl := List.mem_singleton.1 hx
    unfold Am; omega
/-- what price, Likely and Mean answer -/
def CopR (w : World) (V E : Int) (e : Ending) (w' : World) : Prop := e = .returned (.tuple #[.int .i64 V, .int .i64 E]) ∧ Below w.heap.size w w'

set_option maxRecDepth 100000 in
set_option maxHeartbeats 4000000 in
theorem copr_any (F : FuncId) (c : Mb → Int) (f b : Int) (a : Option Addr) (cap : Nat) (l : List Mb) (w : World) (hl : MbA w a l) (hf : Am f) (hC : wrE f l b = 0 → Cnt F c b l) :
    Calls Try.prog 12 #[.int .i64 f, .slice a l.length cap, .int .i64 b, .func (.func F) #[] #[]] w (CopR w (copV c f l b) (copE c f l b)) := by
  have HK := Lib.hid (cock_any f b a cap l w hl)
  obtain ⟨E, hE⟩ : ∃ E, E = wrE f l b := ⟨_, rfl⟩
  unfold CopR
  by_cases q : E = 0
  · have hw : wrE f l b = 0 := by rw [← hE]; exact q
    have hc := hC hw
    obtain ⟨hlen, _, _, _, _⟩ := wrE_zero hw
    have hce : copE c f l b = pricE (totS c f l) := by unfold copE; rw [if_neg (by rw [hw]; decide)]
    have hcv : copV c f l b = pricV (totS c f l) := by unfold copV pricV; rw [hce]
    rw [hw] at HK
    rw [hce, hcv]
    have HP := Lib.hid (fun (W : World) (hb : Below w.heap.size w W) => parts_any F c b a cap l W (hl.up hb) hlen hc)
    have HOam := Lib.hid (outP_am hc.pts hc.am hlen)
    have HS := Lib.hid (outP_sum c l)
    have HLen := Lib.hid (outP_len c l)
    obtain ⟨n, hn⟩ : ∃ n, n = l.length := ⟨_, rfl⟩
    rw [← hn] at HK HP HLen hlen ⊢
    obtain ⟨z, hz⟩ : ∃ z, z = outP c l := ⟨_, rfl⟩
    obtain ⟨S, hS⟩ : ∃ S, S = totS c f l := ⟨_, rfl⟩
    unfold PartsR at HP
    rw [← hz] at HP HOam HS HLen
    have HSum : Hid (sumL (z ++ [f]) = S) := by
      rw [sumL_append, HS.out, hS]
      show _ + (f + 0) = f + _
      omega
    rw [← hS]
    obtain ⟨PE, hPE⟩ : ∃ PE, PE = pricE S := ⟨_, rfl⟩
    obtain ⟨PV, hPV⟩ : ∃ PV, PV = pricV S := ⟨_, rfl⟩
    rw [← hPE, ← hPV]
    have HPE := Lib.hid hPE
    have HPV := Lib.hid hPV
    clear hPE hPV
    have HF := Lib.hid hf
    clear hl hf hC hE q hw hc hce hcv HS hz hS hn
    go_enter Try.func12, Try.ntmps12
    go_wp2_with fail
    refine HK.out.mono ?_
    rintro e w1 ⟨rfl, hb1⟩
    have HB1 := Lib.hid hb1
    clear hb1
    go_wp2_with fail
    refine (HP.out _ HB1.out).mono ?_
    rintro e w2 ⟨v, rfl, ho2, hb2⟩
    have HB2 := Lib.hid (up2 HB1.out hb2)
    obtain ⟨W1, hW1⟩ : ∃ W1, W1 = w2.alloc (.cells #[.int .i64 f] 2) := ⟨_, rfl⟩
    have hbx : Below w2.heap.size w2 W1 := by rw [hW1]; exact boxed _ _
    have ho3 : OwI W1 w1.heap.size v z := ho2.kept (grown_of hbx none) (by cases v.ownBlock <;> simp)
    obtain ⟨v', w5, hr, ho5, hg5⟩ := owi_app ho3 (by rw [HLen.out]; omega) (Nat.le_trans hb2.size hbx.size) (y := w2.heap.size) (x := f) (by rw [hW1]; exact Has.fresh _ _ _) 50
    have hb5 : Below w1.heap.size w1 w5 := (hb2.trans (hbx.mono hb2.size)).grown hg5 (Nat.le_trans hb2.size hbx.size) (fun j hj => (World.ownsRow.lt ho3 j hj).1)
    have hsum := owi_sum ho5 (by rw [List.length_append]; simp) (by rw [List.length_append, HLen.out]; simp; omega) (fun x hx => by
      rcases List.mem_append.1 hx with hx | hx
      · exact HOam.out x hx
      · rw [List.mem_singleton.1 hx]; exact HF.out)
    rw [HSum.out] at hsum
    have HR := Lib.hid hr
    have HT := Lib.hid hsum
    have HB5 := Lib.hid (up2 HB1.out hb5)
    have HW1 := Lib.hid hW1
    clear ho2 hb2 hW1 hbx ho3 hr ho5 hg5 hb5 hsum
    cases q1 : am64 S with
    | false =>
      obtain ⟨t1, t2⟩ := tell_no64 q1
      rw [t1, t2] at HT
      have hpe : PE = 3 := by rw [HPE.out]; unfold pricE; rw [q1]; rfl
      have hpv : PV = 0 := by rw [HPV.out]; unfold pricV; rw [← HPE.out, hpe]; rfl
      clear HPE HPV
      subst hpe hpv
      clear t1 t2 q1
      go_wp2_with (first | (rw [← HW1.out]; refine wpList_run (o := ⟨some 27, _, _, _, _, _⟩) rfl (.tmp 24) (.tmp 26) 50 rfl _ _ rfl rfl (S := fun u q => u = v' ∧ q = w5) ⟨v', w5, HR.out, rfl, rfl⟩ ?_; rintro u q ⟨rfl, rfl⟩) | fail)
      refine HT.out.mono ?_
      rintro e w6 ⟨rfl, hb6⟩
      have HB6 := Lib.hid (up2 HB5.out hb6)
      clear hb6
      go_wp2_with fail
      go_ret2
      exact ⟨rfl, HB6.out⟩
    | true =>
      obtain ⟨t1, t2⟩ := tell_am64 q1
      rw [t1, t2] at HT
      by_cases q2 : S < 0
      · have hpe : PE = 1 := by rw [HPE.out]; unfold pricE; rw [if_pos q1, if_pos q2]
        have hpv : PV = 0 := by rw [HPV.out]; unfold pricV; rw [← HPE.out, hpe]; rfl
        have q3 : decide (S < 0) = true := decide_eq_true q2
        clear HPE HPV
        subst hpe hpv
        clear t1 t2 q1 q2
        go_wp2_with (first | (rw [← HW1.out]; refine wpList_run (o := ⟨some 27, _, _, _, _, _⟩) rfl (.tmp 24) (.tmp 26) 50 rfl _ _ rfl rfl (S := fun u q => u = v' ∧ q = w5) ⟨v', w5, HR.out, rfl, rfl⟩ ?_; rintro u q ⟨rfl, rfl⟩) | fail)
        refine HT.out.mono ?_
        rintro e w6 ⟨rfl, hb6⟩
        have HB6 := Lib.hid (up2 HB5.out hb6)
        clear hb6
        go_wp2_with fail
        go_ret2
        exact ⟨rfl, HB6.out⟩
      · have hpe : PE = 0 := by rw [HPE.out]; unfold pricE; rw [if_pos q1, if_neg q2]
        have hpv : PV = S := by rw [HPV.out]; unfold pricV; rw [← HPE.out, hpe]; rfl
        have q3 : decide (S < 0) = false := decide_eq_false q2
        clear HPE HPV
        subst hpe hpv
        clear t1 t2 q1 q2
        go_wp2_with (first | (rw [← HW1.out]; refine wpList_run (o := ⟨some 27, _, _, _, _, _⟩) rfl (.tmp 24) (.tmp 26) 50 rfl _ _ rfl rfl (S := fun u q => u = v' ∧ q = w5) ⟨v', w5, HR.out, rfl, rfl⟩ ?_; rintro u q ⟨rfl, rfl⟩) | fail)
        refine HT.out.mono ?_
        rintro e w6 ⟨rfl, hb6⟩
        have HB6 := Lib.hid (up2 HB5.out hb6)
        clear hb6
        go_wp2_with fail
        go_ret2
        exact ⟨rfl, HB6.out⟩
  · have hne : wrE f l b ≠ 0 := by rw [← hE]; exact q
    have hce : copE c f l b = E := by unfold copE; rw [if_pos hne, hE]
    have hcv : copV c f l b = 0 := by unfold copV; rw [if_neg (by rw [hce]; exact q)]
    rw [← hE] at HK
    rw [hce, hcv]
    have hq : (E != 0) = true := by simpa using q
    clear hl hC hE hne hce hcv q hf
    go_enter Try.func12, Try.ntmps12
    go_wp2_with fail
    refine HK.out.mono ?_
    rintro e w1 ⟨rfl, hb1⟩
    have HB1 := Lib.hid hb1
    clear hb1
    go_wp2_with fail
    go_ret2
    exact ⟨rfl, HB1.out⟩
theorem cnt_sure {b : Int} {l : List Mb} (h0 : 0 ≤ b) (h1 : b ≤ 10000) (ha : ∀ x ∈ l, mbG x) : Cnt 13 (ptsS b) b l where
  run U W := by simp [callFunc, go_sem, Try.func13, Try.f13]
  calls x _ W := ifSure_any x b W h0 h1
  pts x _ := by unfold ptsS; split <;> omega
  am x hx := (ha x hx).1
theorem cnt_chance {l : List Mb} (hc : ∀ x ∈ l, 0 ≤ x.ch ∧ x.ch ≤ 10000) (ha : ∀ x ∈ l, mbG x) : Cnt 18 Mb.ch 0 l where
  run U W := by simp [callFunc, go_sem, Try.func18, Try.f18]
  calls x hx W := byChance_any x 0 W (ha x hx).2
  pts := hc
  am x hx := (ha x hx).1
section
variable {f b : Int} {a : Option Addr} {cap n : Nat} {l : List Mb} {w : World}
set_option maxHeartbeats 1000000 in
theorem likely_any (f b : Int) (a : Option Addr) (n cap : Nat) (l : List Mb) (w : World) (hn : l.length = n) (hl : MbA w a l) (hf : Am f) (ha : ∀ x ∈ l, mbG x) :
    Calls Try.prog 8 #[.int .i64 f, .slice a n cap, .int .i64 b] w (CopR w (likV f l b) (likE f l b)) := by
  have h := copr_any 13 (ptsS b) f b a cap l w hl hf fun z => by
    obtain ⟨_, _, h0, h1, _⟩ := wrE_zero z
    exact cnt_sure h0 h1 ha
  obtain ⟨e1, e2⟩ := cop_lik f b l
  rw [e1, e2, hn] at h
  have H := Lib.hid h
  clear h e1 e2 hl ha hf hn
  go_enter Try.func8, Try.ntmps8
  go_wp2_with fail
  refine H.out.mono ?_
  rintro e w1 ⟨rfl, hb⟩
  have HB := Lib.hid hb
  clear hb
  go_wp2_with fail
  go_ret2
  exact ⟨rfl, HB.out⟩
set_option maxHeartbeats 1000000 in
theorem meanC_any (f : Int) (a : Option Addr) (n cap : Nat) (l : List Mb) (w : World) (hn : l.length = n) (hl : MbA w a l) (hf : Am f) (ha : ∀ x ∈ l, mbG x) :
    Calls Try.prog 10 #[.int .i64 f, .slice a n cap] w (CopR w (meaV f l) (meaE f l)) := by
  have h := copr_any 18 Mb.ch f 0 a cap l w hl hf fun z => cnt_chance (wrE_zero z).2.2.2.2 ha
  obtain ⟨e1, e2⟩ := cop_mea f l
  rw [e1, e2, hn] at h
  have H := Lib.hid h
  clear h e1 e2 hl ha hf hn
  go_enter Try.func10, Try.ntmps10
  go_wp2_with fail
  refine H.out.mono ?_
  rintro e w1 ⟨rfl, hb⟩
  have HB := Lib.hid hb
  clear hb
  go_wp2_with fail
  go_ret2
  exact ⟨rfl, HB.out⟩
end
end Go.Proofs.Ythogokflobnfpaa
