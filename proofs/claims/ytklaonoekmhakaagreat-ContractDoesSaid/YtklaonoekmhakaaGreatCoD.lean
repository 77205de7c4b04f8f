/- parts, walked. -/
import Derived.Test.YtklaonoekmhakaaGreatCoB
namespace Go.Proofs.YtklaonoekmhakaaGreat
open Go.RowKit

/-- a function of what may come and a bound, that tells points -/
structure Cnt (F : FuncId) (c : Mb → Int) (b : Int) (l : List Mb) : Prop where
  run : ∀ (U : Array Value) (W : World), (callFunc F U).run Tryz.prog W = .ok (.enter F U) W
  calls : ∀ x ∈ l, ∀ W : World, Calls Tryz.prog F #[x.val, .int .i64 b] W fun e w' => e = .returned (.int .i64 (c x)) ∧ Below W.heap.size W w'
  pts : ∀ x ∈ l, 0 ≤ c x ∧ c x ≤ 10000
  am : ∀ x ∈ l, Am x.am
theorem OwI.lower {W : World} {B B' : Nat} {v : Value} {z : List Int} (h : OwI W B v z) (q : B' ≤ B) : OwI W B' v z := by
  refine ⟨h.1, ?_⟩
  rcases h.2 with h2 | ⟨g, cp, cur, e5, h5, h6⟩
  · exact .inl h2
  · exact .inr ⟨g, cp, cur, e5, Nat.le_trans q h5, h6⟩
/-- what parts leaves -/
def PartsR (w : World) (c : Mb → Int) (l : List Mb) (e : Ending) (w' : World) : Prop := ∃ v, e = .returned v ∧ OwI w' w.heap.size v (outP c l) ∧ Below w.heap.size w w'
/-- numbers of a list, as a block bears them -/
def parF (c : Mb → Int) (l : List Mb) (k : Nat) : Nat → Int := fun t => if t < k then cP c (mbAt l t) else 0
theorem parF_step {c : Mb → Int} {l : List Mb} {k : Nat} {x : Mb} (h : l[k]? = some x) (t : Nat) : parF c l (k + 1) t = if t = k then cP c x else parF c l k t := by
  unfold parF
  by_cases z : t = k
  · subst z; rw [if_pos (by omega), if_pos rfl, mbAt_some h]
  · rw [if_neg z]
    by_cases y : t < k
    · rw [if_pos y, if_pos (by omega)]
    · rw [if_neg y, if_neg (by omega)]
theorem parF_zero (c : Mb → Int) (l : List Mb) : parF c l 0 = fun _ => 0 := by funext t; unfold parF; rw [if_neg (by omega)]

set_option maxRecDepth 100000 in
set_option maxHeartbeats 4000000 in
theorem parts_any (F : FuncId) (c : Mb → Int) (b : Int) (a : Option Addr) (cap : Nat) (l : List Mb) (w : World) (hl : MbA w a l) (hn : l.length ≤ 32) (hC : Cnt F c b l) :
    Calls Tryz.prog 138 #[.slice a l.length cap, .int .i64 b, .func (.func F) #[] #[]] w (PartsR w c l) := by
  obtain ⟨n, hnn⟩ : ∃ n, n = l.length := ⟨_, rfl⟩
  rw [← hnn] at hn ⊢
  have HL := Lib.hid hl
  have HN := Lib.hid hnn
  have HC := Lib.hid hC
  clear hl hnn hC
  obtain ⟨i0, hi, hz0, hz1, hz2⟩ := info_parts infoI64o
  go_enter Tryz.func138, Tryz.ntmps138
  go_wp2_with (at_make; refine wpList_make_full _ rfl _ _ 64 rfl w.heap.size 2 i0 (.int .i64 0) 1 Tryz.underlying64 hi hz0 hz1 .i64 .i64 _ _ n rfl rfl ?c1 ?c2 ?c3 ?c4 ?c5 ?_)
  case c1 => rfl
  case c2 => rfl
  case c3 => rw [hz2]; omega
  case c4 => unfold maxLen; omega
  case c5 => exact Nat.le_refl _
  intro w1 hown hgrow
  have hb1 : Below w.heap.size w w1 := (Below.refl _ _).grown hgrow (Nat.le_refl _) (fun k hk => by simp at hk)
  have HI := Lib.hid (made_intsO hown)
  have HB := Lib.hid hb1
  obtain ⟨g, hg⟩ : ∃ g, g = w.heap.size := ⟨_, rfl⟩
  have HG : Hid (w.heap.size ≤ g) := by rw [hg]; exact Nat.le_refl _
  rw [← hg] at HI
  rw [← hg]
  clear hown hgrow hb1 hg hi hz0 hz1 hz2 i0
  go_wp2_with fail
  go_loopw [8, 21] (fun r i wr => ∃ k : Nat, k ≤ n ∧ i = .int .i64 (k : Int) ∧ r = .int .i64 (sumM (cR c) (l.take k)) ∧ IntsO wr g n (parF c l k) ∧ Below w.heap.size w wr) (fun _ i _ => n - (intOf i).toNat)
  case atStart => exact ⟨0, Nat.zero_le _, rfl, by simp [sumM], by rw [parF_zero]; exact HI.out, HB.out⟩
  case round =>
    obtain ⟨k, hk, rfl, rfl, hI, hb⟩ := hrel
    have HIr := Lib.hid hI
    have HBr := Lib.hid hb
    clear hI hb
    by_cases hlt : k < n
    · obtain ⟨x, hx⟩ : ∃ x, l[k]? = some x := ⟨l[k]'(by rw [← HN.out]; exact hlt), List.getElem?_eq_getElem _⟩
      obtain ⟨bb, o, ha, c0, c1⟩ := mb_at (HL.out.up HBr.out) hx
      subst ha
      have hmem := List.mem_of_getElem? hx
      obtain ⟨p0, p1⟩ := HC.out.pts x hmem
      obtain ⟨m0, m1⟩ := HC.out.am x hmem
      have hrun := HC.out.run #[x.val, .int .i64 b]
      have hcall := HC.out.calls x hmem
      obtain ⟨q, hq⟩ : ∃ q, q = c x := ⟨_, rfl⟩
      rw [← hq] at p0 p1 hcall
      have HCall := Lib.hid hcall
      have HPart := Lib.hid (fun W => part_any x.am q 10000 W m0 m1 p0 (by omega) (by omega) (by omega))
      have HRest := Lib.hid (fun W => rest_any x.am q 10000 W m0 m1 p0 (by omega) (by omega) (by omega))
      have htell : tellV (x.am * q / 10000) = x.am * q / 10000 := by
        have := cP_am ⟨m0, m1⟩ p0 p1
        unfold tellV; exact if_pos this
      rw [htell] at HPart
      have hstep := parF_step (c := c) hx
      have hsum := sumM_take (g := cR c) hx
      rw [show cP c x = x.am * q / 10000 by rw [hq]; rfl] at hstep
      rw [show cR c x = x.am * q % 10000 by rw [hq]; rfl] at hsum
      have hr0 := rests_in c (l.take k)
      have hr1 := rests_in c (l.take (k + 1))
      have hlt1 : (l.take (k + 1)).length ≤ 32 := by rw [List.length_take]; omega
      have hlt0 : (l.take k).length ≤ 32 := by rw [List.length_take]; omega
      obtain ⟨R, hR⟩ : ∃ R, R = sumM (cR c) (l.take k) := ⟨_, rfl⟩
      rw [← hR] at hsum hr0 ⊢
      have hw : IntKind.i64.wrap (R + x.am * q % 10000) = R + x.am * q % 10000 := IntWalk.i64_in _ (by omega)
      have HStep := Lib.hid hstep
      have HSum := Lib.hid hsum
      unfold Mb.val at hrun HCall
      obtain ⟨A, hA⟩ : ∃ A, A = x.am := ⟨_, rfl⟩
      rw [← hA] at hrun HCall HPart HRest HStep HSum hw c0
      have hk0 : (0 : Int) ≤ (k : Int) := by omega
      have e1 : IntKind.i64.wrap ((k : Int) + 1) = (k : Int) + 1 := IntWalk.i64_in _ (by omega)
      have hgl := World.block_lt_of_cell? _ _ (HIr.out k hlt).1
      clear hx hmem hcall hq hA htell hstep hsum hr0 hr1 hlt0 hlt1 hR p0 p1 m0 m1
      go_wp2_with fail
      refine (HCall.out _).mono ?_
      rintro e w2 ⟨rfl, hb2⟩
      have HB2 := Lib.hid (up2 (boxed wr (.cells #[.int .i64 A, .int .i64 x.ch] 84)) hb2)
      have HX2 := Lib.hid ((Has.fresh wr 84 #[.int .i64 A, .int .i64 x.ch]).up hb2)
      have z0 : w2.cell? ⟨wr.heap.size, 0, none⟩ = some (.int .i64 A) := HX2.out.cell 0
      clear hb2 hrun c0 c1
      go_wp2_with fail
      refine (HPart.out _).mono ?_
      rintro e w3 ⟨rfl, hb3⟩
      have HB3 := Lib.hid (up2 HB2.out hb3)
      have z1 : w3.cell? ⟨wr.heap.size, 0, none⟩ = some (.int .i64 A) := kcell hb3 z0
      clear hb3 z0
      go_wp2_with fail
      refine (HRest.out _).mono ?_
      rintro e w4 ⟨rfl, hb4⟩
      have HB4 := Lib.hid (up2 HB3.out hb4)
      have HI4 := Lib.hid (HIr.out.up HB4.out)
      have g0 := (HI4.out k hlt).1
      have g1 := (HI4.out k hlt).2
      clear hb4 z1
      go_wp2_with fail
      go_roundw
      case rel =>
        refine ⟨k + 1, by omega, by go_num, by rw [HSum.out], HI4.out.put _ (fun t _ => HStep.out t), ?_⟩
        exact (up2 HBr.out HB4.out).setCell (p := ⟨g, k, none⟩) HG.out _
      case measure => simp [intOf]; omega
    · obtain rfl : k = n := by omega
      have htake : l.take k = l := by rw [HN.out]; exact List.take_length
      rw [htake]
      obtain ⟨R, hR⟩ : ∃ R, R = sumM (cR c) l := ⟨_, rfl⟩
      have hr0 := rests_in c l
      rw [← hR] at hr0 ⊢
      have hlen : l.length ≤ 32 := by rw [← HN.out]; exact hn
      have hw : wrap64 (Int.tdiv R 10000) = R / 10000 := by
        rw [Int.tdiv_eq_ediv_of_nonneg hr0.1]; exact IntWalk.wrap64_in _ ⟨by omega, by omega⟩
      have HO : Hid (outP c l = l.map (cP c) ++ [R / 10000]) := by rw [hR]; exact Lib.hid rfl
      obtain ⟨Q, hQ⟩ : ∃ Q, Q = R / 10000 := ⟨_, rfl⟩
      rw [← hQ] at hw HO
      obtain ⟨W1, hW1⟩ : ∃ W1, W1 = wr.alloc (.cells #[.int .i64 Q] 2) := ⟨_, rfl⟩
      have hb1 : Below wr.heap.size wr W1 := by rw [hW1]; exact boxed _ _
      obtain ⟨v', w5, hr, ho5, hg5⟩ := ints_app (HIr.out.up hb1) (by omega) (z := l.map (cP c)) (by rw [List.length_map]; exact HN.out.symm) (fun t x ht => by
        rw [List.getElem?_map] at ht
        cases q : l[t]? with
        | none => rw [q] at ht; cases ht
        | some y =>
          rw [q] at ht
          have hx : cP c y = x := Option.some.inj ht
          have htl := (List.getElem?_eq_some_iff.1 q).1
          unfold parF
          rw [if_pos (by rw [HN.out]; exact htl), mbAt_some q]; exact hx) (y := wr.heap.size) (x := Q) (by rw [hW1]; exact Has.fresh _ _ _) 64
      have HR := Lib.hid hr
      have HOw := Lib.hid ho5
      have HBe : Hid (Below w.heap.size w w5) := by
        refine up2 (up2 HBr.out hb1) ?_
        exact (Below.refl _ _).grown hg5 (Nat.le_refl _) (fun j hj => by cases hj)
      have HSz : Hid (w.heap.size ≤ W1.heap.size) := Nat.le_trans HBr.out.size hb1.size
      have HW1 := Lib.hid hW1
      clear hR hr0 hQ hW1 hb1 hr ho5 hg5 htake
      go_wp2_with (first | (rw [← HW1.out]; refine wpList_run (o := ⟨some 56, _, _, _, _, _⟩) rfl (.tmp 52) (.tmp 55) 64 rfl _ _ rfl rfl (S := fun u q => u = v' ∧ q = w5) ⟨v', w5, HR.out, rfl, rfl⟩ ?_; rintro u q ⟨rfl, rfl⟩) | fail)
      go_ret
      refine ⟨_, rfl, ?_, HBe.out⟩
      rw [HO.out]
      exact HOw.out.lower HSz.out
end Go.Proofs.YtklaonoekmhakaaGreat

namespace Go.Proofs.YtklaonoekmhakaaGreat
open Go.RowKit

theorem sumTo_L (z : List Int) : ∀ k, k ≤ z.length → sumTo (fun k => (z[k]?).getD 0) k = sumL (z.take k)
  | 0, _ => by simp [sumTo, sumL]
  | k + 1, hk => by
    have hx : z[k]? = some z[k] := List.getElem?_eq_getElem (by omega)
    rw [sumTo, sumTo_L z k (by omega), List.take_add_one, hx, sumL_append]
    simp [sumL]
theorem OwI.form {W : World} {B : Nat} {v : Value} {z : List Int} (h : OwI W B v z) (hz : 0 < z.length) : ∃ g c, v = .slice (some ⟨g, 0, none⟩) z.length c ∧ ∀ k, k < z.length → W.cell? ⟨g, k, none⟩ = some (.int .i64 ((z[k]?).getD 0)) := by
  have h0 := h
  rcases h.2 with ⟨e, e0⟩ | ⟨g, cp, cur, e, _⟩
  · omega
  · subst e
    refine ⟨g, cp, rfl, fun k hk => ?_⟩
    rw [World.ownsRow.cellAt (w := W) h0 k (by rw [Nat.mul_one]; exact hk), List.getElem?_map, List.getElem?_eq_getElem hk]; rfl
theorem owi_sum {W : World} {B : Nat} {v : Value} {z : List Int} (h : OwI W B v z) (hz : 0 < z.length) (h2 : z.length ≤ 1000) (ha : ∀ x ∈ z, Am x) :
    Calls Tryz.prog 27 #[v] W fun e w' => e = .returned (.tuple #[.int .i64 (tellV (sumL z)), .int .i64 (tellE (sumL z))]) ∧ Below W.heap.size W w' := by
  obtain ⟨g, c, rfl, hc⟩ := h.form hz
  have hs := sumTo_L z z.length (Nat.le_refl _)
  rw [List.take_length] at hs
  rw [← hs]
  refine sum_some _ (fun k => ?_) g 0 z.length c W (by omega) (fun k hk => by rw [Nat.zero_add]; exact hc k hk)
  show Am ((z[k]?).getD 0)
  cases q : z[k]? with
  | none => exact am_small (by decide) (by decide)
  | some x => exact ha x (List.mem_of_getElem? q)
theorem tell_am64 {s : Int} (h : am64 s = true) : tellV s = s ∧ tellE s = 0 := by
  have : -9223372036854775808 ≤ s ∧ s ≤ 9223372036854775807 := by simpa [am64] using h
  unfold tellV tellE
  rw [if_pos this, if_pos this]; exact ⟨rfl, rfl⟩
theorem tell_no64 {s : Int} (h : am64 s = false) : tellV s = 0 ∧ tellE s = 3 := by
  have : ¬ (-9223372036854775808 ≤ s ∧ s ≤ 9223372036854775807) := fun z => by
    have : am64 s = true := by simpa [am64] using z
    rw [h] at this; cases this
  unfold tellV tellE
  rw [if_neg this, if_neg this]; exact ⟨rfl, rfl⟩
theorem outP_am {c : Mb → Int} {l : List Mb} (hp : ∀ x ∈ l, 0 ≤ c x ∧ c x ≤ 10000) (ha : ∀ x ∈ l, Am x.am) (hn : l.length ≤ 32) : ∀ x ∈ outP c l, Am x := fun x hx => by
  unfold outP at hx
  rcases List.mem_append.1 hx with hx | hx
  · obtain ⟨y, hy, rfl⟩ := List.mem_map.1 hx
    exact cP_am (ha y hy) (hp y hy).1 (hp y hy).2
  · have := rests_in c l
    obtain rfl := List.mem_singleton.1 hx
    unfold Am; omega
/-- what price, Likely and Mean answer -/
def CopR (w : World) (V E : Int) (e : Ending) (w' : World) : Prop := e = .returned (.tuple #[.int .i64 V, .int .i64 E]) ∧ Below w.heap.size w w'

set_option maxRecDepth 100000 in
set_option maxHeartbeats 4000000 in
theorem copr_any (F : FuncId) (c : Mb → Int) (f b : Int) (a : Option Addr) (cap : Nat) (l : List Mb) (w : World) (hl : MbA w a l) (hf : Am f) (hC : wrE f l b = 0 → Cnt F c b l) :
    Calls Tryz.prog 101 #[.int .i64 f, .slice a l.length cap, .int .i64 b, .func (.func F) #[] #[]] w (CopR w (copV c f l b) (copE c f l b)) := by
  have HK := Lib.hid (cock_any f b a cap l w hl)
  obtain ⟨E, hE⟩ : ∃ E, E = wrE f l b := ⟨_, rfl⟩
  unfold CopR
  by_cases q : E = 0
  · have hw : wrE f l b = 0 := by rw [← hE]; exact q
    have hc := hC hw
    obtain ⟨hlen, _, _, _, _⟩ := wrE_zero hw
    have hce : copE c f l b = pricE (totS c f l) := by unfold copE; rw [if_neg (by rw [hw]; decide)]
    have hcv : copV c f l b = pricV (totS c f l) := by unfold copV pricV; rw [hce]
    rw [hw] at HK
    rw [hce, hcv]
    have HP := Lib.hid (fun (W : World) (hb : Below w.heap.size w W) => parts_any F c b a cap l W (hl.up hb) hlen hc)
    have HOam := Lib.hid (outP_am hc.pts hc.am hlen)
    have HS := Lib.hid (outP_sum c l)
    have HLen := Lib.hid (outP_len c l)
    obtain ⟨n, hn⟩ : ∃ n, n = l.length := ⟨_, rfl⟩
    rw [← hn] at HK HP HLen hlen ⊢
    obtain ⟨z, hz⟩ : ∃ z, z = outP c l := ⟨_, rfl⟩
    obtain ⟨S, hS⟩ : ∃ S, S = totS c f l := ⟨_, rfl⟩
    unfold PartsR at HP
    rw [← hz] at HP HOam HS HLen
    have HSum : Hid (sumL (z ++ [f]) = S) := by
      rw [sumL_append, HS.out, hS]
      show _ + (f + 0) = f + _
      omega
    rw [← hS]
    obtain ⟨PE, hPE⟩ : ∃ PE, PE = pricE S := ⟨_, rfl⟩
    obtain ⟨PV, hPV⟩ : ∃ PV, PV = pricV S := ⟨_, rfl⟩
    rw [← hPE, ← hPV]
    have HPE := Lib.hid hPE
    have HPV := Lib.hid hPV
    clear hPE hPV
    have HF := Lib.hid hf
    clear hl hf hC hE q hw hc hce hcv HS hz hS hn
    go_enter Tryz.func101, Tryz.ntmps101
    go_wp2_with fail
    refine HK.out.mono ?_
    rintro e w1 ⟨rfl, hb1⟩
    have HB1 := Lib.hid hb1
    clear hb1
    go_wp2_with fail
    refine (HP.out _ HB1.out).mono ?_
    rintro e w2 ⟨v, rfl, ho2, hb2⟩
    have HB2 := Lib.hid (up2 HB1.out hb2)
    obtain ⟨W1, hW1⟩ : ∃ W1, W1 = w2.alloc (.cells #[.int .i64 f] 2) := ⟨_, rfl⟩
    have hbx : Below w2.heap.size w2 W1 := by rw [hW1]; exact boxed _ _
    have ho3 : OwI W1 w1.heap.size v z := ho2.kept (grown_of hbx none) (by cases v.ownBlock <;> simp)
    obtain ⟨v', w5, hr, ho5, hg5⟩ := owi_app ho3 (by rw [HLen.out]; omega) (Nat.le_trans hb2.size hbx.size) (y := w2.heap.size) (x := f) (by rw [hW1]; exact Has.fresh _ _ _) 64
    have hb5 : Below w1.heap.size w1 w5 := (hb2.trans (hbx.mono hb2.size)).grown hg5 (Nat.le_trans hb2.size hbx.size) (fun j hj => (World.ownsRow.lt ho3 j hj).1)
    have hsum := owi_sum ho5 (by rw [List.length_append]; simp) (by rw [List.length_append, HLen.out]; simp; omega) (fun x hx => by
      rcases List.mem_append.1 hx with hx | hx
      · exact HOam.out x hx
      · rw [List.mem_singleton.1 hx]; exact HF.out)
    rw [HSum.out] at hsum
    have HR := Lib.hid hr
    have HT := Lib.hid hsum
    have HB5 := Lib.hid (up2 HB1.out hb5)
    have HW1 := Lib.hid hW1
    clear ho2 hb2 hW1 hbx ho3 hr ho5 hg5 hb5 hsum
    cases q1 : am64 S with
    | false =>
      obtain ⟨t1, t2⟩ := tell_no64 q1
      rw [t1, t2] at HT
      have hpe : PE = 3 := by rw [HPE.out]; unfold pricE; rw [q1]; rfl
      have hpv : PV = 0 := by rw [HPV.out]; unfold pricV; rw [← HPE.out, hpe]; rfl
      clear HPE HPV
      subst hpe hpv
      clear t1 t2 q1
      go_wp2_with (first | (rw [← HW1.out]; refine wpList_run (o := ⟨some 27, _, _, _, _, _⟩) rfl (.tmp 24) (.tmp 26) 64 rfl _ _ rfl rfl (S := fun u q => u = v' ∧ q = w5) ⟨v', w5, HR.out, rfl, rfl⟩ ?_; rintro u q ⟨rfl, rfl⟩) | fail)
      refine HT.out.mono ?_
      rintro e w6 ⟨rfl, hb6⟩
      have HB6 := Lib.hid (up2 HB5.out hb6)
      clear hb6
      go_wp2_with fail
      go_ret2
      exact ⟨rfl, HB6.out⟩
    | true =>
      obtain ⟨t1, t2⟩ := tell_am64 q1
      rw [t1, t2] at HT
      by_cases q2 : S < 0
      · have hpe : PE = 1 := by rw [HPE.out]; unfold pricE; rw [if_pos q1, if_pos q2]
        have hpv : PV = 0 := by rw [HPV.out]; unfold pricV; rw [← HPE.out, hpe]; rfl
        have q3 : decide (S < 0) = true := decide_eq_true q2
        clear HPE HPV
        subst hpe hpv
        clear t1 t2 q1 q2
        go_wp2_with (first | (rw [← HW1.out]; refine wpList_run (o := ⟨some 27, _, _, _, _, _⟩) rfl (.tmp 24) (.tmp 26) 64 rfl _ _ rfl rfl (S := fun u q => u = v' ∧ q = w5) ⟨v', w5, HR.out, rfl, rfl⟩ ?_; rintro u q ⟨rfl, rfl⟩) | fail)
        refine HT.out.mono ?_
        rintro e w6 ⟨rfl, hb6⟩
        have HB6 := Lib.hid (up2 HB5.out hb6)
        clear hb6
        go_wp2_with fail
        go_ret2
        exact ⟨rfl, HB6.out⟩
      · have hpe : PE = 0 := by rw [HPE.out]; unfold pricE; rw [if_pos q1, if_neg q2]
        have hpv : PV = S := by rw [HPV.out]; unfold pricV; rw [← HPE.out, hpe]; rfl
        have q3 : decide (S < 0) = false := decide_eq_false q2
        clear HPE HPV
        subst hpe hpv
        clear t1 t2 q1 q2
        go_wp2_with (first | (rw [← HW1.out]; refine wpList_run (o := ⟨some 27, _, _, _, _, _⟩) rfl (.tmp 24) (.tmp 26) 64 rfl _ _ rfl rfl (S := fun u q => u = v' ∧ q = w5) ⟨v', w5, HR.out, rfl, rfl⟩ ?_; rintro u q ⟨rfl, rfl⟩) | fail)
        refine HT.out.mono ?_
        rintro e w6 ⟨rfl, hb6⟩
        have HB6 := Lib.hid (up2 HB5.out hb6)
        clear hb6
        go_wp2_with fail
        go_ret2
        exact ⟨rfl, HB6.out⟩
  · have hne : wrE f l b ≠ 0 := by rw [← hE]; exact q
    have hce : copE c f l b = E := by unfold copE; rw [if_pos hne, hE]
    have hcv : copV c f l b = 0 := by unfold copV; rw [if_neg (by rw [hce]; exact q)]
    rw [← hE] at HK
    rw [hce, hcv]
    have hq : (E != 0) = true := by simpa using q
    clear hl hC hE hne hce hcv q hf
    go_enter Tryz.func101, Tryz.ntmps101
    go_wp2_with fail
    refine HK.out.mono ?_
    rintro e w1 ⟨rfl, hb1⟩
    have HB1 := Lib.hid hb1
    clear hb1
    go_wp2_with fail
    go_ret2
    exact ⟨rfl, HB1.out⟩
theorem cnt_sure {b : Int} {l : List Mb} (h0 : 0 ≤ b) (h1 : b ≤ 10000) (ha : ∀ x ∈ l, mbG x) : Cnt 102 (ptsS b) b l where
  run U W := by simp [callFunc, go_sem, Tryz.func102, Tryz.f102]
  calls x _ W := ifSure_any x b W h0 h1
  pts x _ := by unfold ptsS; split <;> omega
  am x hx := (ha x hx).1
section
variable {f b : Int} {a : Option Addr} {cap n : Nat} {l : List Mb} {w : World}
set_option maxHeartbeats 1000000 in
theorem likely_any (f b : Int) (a : Option Addr) (n cap : Nat) (l : List Mb) (w : World) (hn : l.length = n) (hl : MbA w a l) (hf : Am f) (ha : ∀ x ∈ l, mbG x) :
    Calls Tryz.prog 68 #[.int .i64 f, .slice a n cap, .int .i64 b] w (CopR w (likV f l b) (likE f l b)) := by
  have h := copr_any 102 (ptsS b) f b a cap l w hl hf fun z => by
    obtain ⟨_, _, h0, h1, _⟩ := wrE_zero z
    exact cnt_sure h0 h1 ha
  obtain ⟨e1, e2⟩ := cop_lik f b l
  rw [e1, e2, hn] at h
  have H := Lib.hid h
  clear h e1 e2 hl ha hf hn
  go_enter Tryz.func68, Tryz.ntmps68
  go_wp2_with fail
  refine H.out.mono ?_
  rintro e w1 ⟨rfl, hb⟩
  have HB := Lib.hid hb
  clear hb
  go_wp2_with fail
  go_ret2
  exact ⟨rfl, HB.out⟩
end
end Go.Proofs.YtklaonoekmhakaaGreat
