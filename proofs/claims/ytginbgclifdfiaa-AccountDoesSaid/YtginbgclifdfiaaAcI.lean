/- even: are postings together 0, those of each contract? -/
import Derived.Test.YtginbgclifdfiaaAcH
namespace Go.Proofs.Ytginbgclifdfiaa
open Go.RowKit

def ekI (c : Int) : Value := .int .i64 c
theorem ekI_inj : ∀ a b : Int, ekI a = ekI b → a = b := fun a b h => by unfold ekI at h; injection h
abbrev kC (x : Po) : Int := x.c
theorem zeroI64s (W : World) : (zeroValue 55).run Try.prog W = .ok (.slice none 0 0) W := by kernel_rfl
/-- the two cells that a round reads -/
def Two (X : Nat) (c m : Int) (w : World) : Prop := w.cell? ⟨X, 1, none⟩ = some (.int .i64 c) ∧ w.cell? ⟨X, 2, none⟩ = some (.int .i64 m)
theorem Two.keep {X : Nat} {c m : Int} {w w' : World} {row : Option Nat} (h : Two X c m w) (g : w.grownBy w' row) (hn : some X ≠ row) : Two X c m w' :=
  ⟨g.cell h.1 hn, g.cell h.2 hn⟩
/-- groups of the first ones, in a world that goes on from another one -/
structure Ev (w0 w : World) (ps : List Po) (G : List (Int × Value × List Int)) : Prop where
  gr : Gr ekI 3 w w0.heap.size G
  ok : GrOk kC ps G
  bel : Below w0.heap.size w0 w
theorem Ev.lt {w0 w : World} {ps : List Po} {G : List (Int × Value × List Int)} (h : Ev w0 w ps G) : w0.heap.size < w.heap.size := h.gr.lt

set_option maxRecDepth 100000 in
set_option maxHeartbeats 4000000 in
theorem even_loop (w : World) (b o n cap : Nat) (ps : List Po) (hc : ∀ i x, ps[i]? = some x → w.cell? ⟨b, o + i * 3, none⟩ = some (.int .i64 x.a) ∧ w.cell? ⟨b, o + i * 3 + 1, none⟩ = some (.int .i64 x.c) ∧ w.cell? ⟨b, o + i * 3 + 2, none⟩ = some (.int .i64 x.m)) (hn : ps.length = n) (h2 : n ≤ 1000)
    (hm : ∀ x ∈ ps, Am x.c ∧ Am x.m) :
    Calls Try.prog 52 #[.slice (some ⟨b, o, none⟩) n cap] w fun e w' => e = .returned (.bool (evenB ps)) ∧ Below w.heap.size w w' := by
  have HC := Lib.hid hc
  have HN := Lib.hid hn
  have HM := Lib.hid hm
  clear hc hn hm
  have hmm := @run_makeMap Try.prog
  go_enter Try.func52, Try.ntmps52
  go_wp2_with fail
  go_loopw [5, 13] (fun _ i wr => ∃ k : Nat, k ≤ n ∧ i = .int .i64 (k : Int) ∧ ∃ G, Ev w wr (ps.take k) G) (fun _ i _ => n - (intOf i).toNat)
  case atStart => exact ⟨0, Nat.zero_le _, rfl, [], Gr.fresh _ _ w, by rw [List.take_zero]; exact GrOk.nil _, boxed _ _⟩
  case round =>
    obtain ⟨k, hk, rfl, G, hE⟩ := hrel
    have HE := Lib.hid hE
    clear hE
    by_cases hlt : k < n
    · obtain ⟨x, hx⟩ : ∃ x, ps[k]? = some x := ⟨ps[k]'(by rw [HN.out]; exact hlt), List.getElem?_eq_getElem _⟩
      have HX := Lib.hid hx
      obtain ⟨c0, c1, c2⟩ := HC.out k x hx
      have d0 := kcell HE.out.bel c0
      have d1 := kcell HE.out.bel c1
      have d2 := kcell HE.out.bel c2
      clear hx c0 c1 c2
      -- the posting's own block
      obtain ⟨W1, hW1⟩ : ∃ W1, W1 = wr.alloc (.cells #[.int .i64 x.a, .int .i64 x.c, .int .i64 x.m] 48) := ⟨_, rfl⟩
      have hb1 : Below wr.heap.size wr W1 := by rw [hW1]; exact boxed _ _
      have hX : Has W1 wr.heap.size 48 #[.int .i64 x.a, .int .i64 x.c, .int .i64 x.m] := by rw [hW1]; exact Has.fresh _ _ _
      have hT : Two wr.heap.size x.c x.m W1.drew := ⟨hX.cell 1, hX.cell 2⟩
      have hamk := HM.out x (List.mem_of_getElem? HX.out)
      obtain ⟨v, zs, hlook, hown, hzl, hback⟩ := gr_look x lawInt Try.underlying103 zeroI64s ekI_inj HE.out.gr HE.out.ok (ky_int hamk.1)
      have hlt0 := HE.out.lt
      have hs1 : W1.heap.size = wr.heap.size + 1 := by rw [hW1]; simp
      have hgm : W1.heap[w.heap.size]? = wr.heap[w.heap.size]? := by rw [hW1]; exact heap_alloc_old wr _ HE.out.lt
      have l1 := hlook W1.drew hgm
      have l2 := hlook (W1.alloc (.cells #[.int .i64 x.m] 2)).drew ((heap_alloc_old W1 _ (by omega)).trans hgm)
      unfold ekI at l1 l2
      have hb2 : Below wr.heap.size wr (W1.alloc (.cells #[.int .i64 x.m] 2)).drew := (hb1.alloc hb1.size _).drew
      have hT2 : Two wr.heap.size x.c x.m (W1.alloc (.cells #[.int .i64 x.m] 2)).drew := Two.keep hT (World.grownBy_alloc W1.drew _ none) (by simp)
      have hy : (W1.alloc (.cells #[.int .i64 x.m] 2)).drew.cell? ⟨W1.heap.size, 0, none⟩ = some (.int .i64 x.m) := (Has.fresh W1 2 #[.int .i64 x.m]).cell 0
      obtain ⟨v', w5, happ, h1, g5, h3⟩ := app_one 55 (hown.up hb2) (by simp; omega) (by rw [List.length_take] at hzl; omega) hy
      obtain ⟨w6, G', hput, q1, q2, q3, q4⟩ := hback w5 v' ((grown_up hb2 _).trans g5) h1 (by
        rcases h3 with h3 | ⟨i, h3, h4⟩
        · exact .inl h3
        · exact .inr ⟨i, h3, by simp at h4; omega⟩)
      unfold ekI at hput
      have hXv : some wr.heap.size ≠ v.ownBlock := fun e => by have := (hown.lt e.symm).2; omega
      have hT5 := hT2.keep g5 hXv
      have hT6 := hT5.keep q3 (by simp; omega)
      have hE6 : Ev w w6 (ps.take (k + 1)) G' := by
        refine ⟨q1, by rw [List.take_add_one, HX.out]; exact q2, ?_⟩
        refine ((HE.out.bel.trans (hb2.mono (Nat.le_of_lt HE.out.lt))).grown g5 (by simp; omega) (fun j hj => ?_)).grown q3 ?_ (fun j hj => ?_)
        · have := (hown.lt hj).1; omega
        · have := g5.size; simp at this; omega
        · injection hj with hj; omega
      have T0 := hT.1
      have T1 := hT.2
      have HT := Lib.hid hT
      have HT2 := Lib.hid hT2
      have HT5 := Lib.hid hT5
      have HT6 := Lib.hid hT6
      have HE6 := Lib.hid hE6
      have HA := Lib.hid happ
      have HW1 := Lib.hid hW1
      clear hlook hzl hT hT2 hT5 hT6 hE6 hback hown hX hamk hW1 hb1 hb2 hy happ h1 g5 h3 q1 q2 q3 q4 hXv hgm hs1 hlt0
      go_wp2_with fail
      rw [← HW1.out]
      go_region_held3 (fun w' => w'.cell? ⟨wr.heap.size, 1, none⟩ = some (.int .i64 x.c) ∧ w'.cell? ⟨wr.heap.size, 2, none⟩ = some (.int .i64 x.m))
        (first | (go_keep; done) | (change Two wr.heap.size x.c x.m _; (first | with_reducible exact HT2.out | with_reducible exact HT5.out | with_reducible exact HT6.out)))
        (first | (refine step_run (by rfl) (.tmp 23) (.tmp 26) 55 (by rfl) _ _ (by rfl) (by rfl) (S := fun u q => u = v' ∧ q = w5) ⟨v', w5, HA.out, rfl, rfl⟩ ?_; rintro u q ⟨rfl, rfl⟩))
      all_goals
        clear T0 T1 l1 l2 hput
        go_wp2_with fail
        go_roundw
        case rel => exact ⟨k + 1, by omega, by go_num, G', HE6.out⟩
        case measure => simp [intOf]; omega
    · obtain rfl : k = n := by omega
      obtain ⟨wo, rfl⟩ : ∃ wo, wo = wr := ⟨_, rfl⟩
      have hE := HE.out
      rw [List.take_of_length_le (by rw [HN.out]; exact Nat.le_refl _)] at hE
      have HE0 := Lib.hid hE
      obtain ⟨wi, hrange, hit, hbi, hsz⟩ := Mp.range Try.underlying103 hE.gr.map
      have HI := Lib.hid hit
      have HBI := Lib.hid hbi
      clear hE HE hit hbi hsz
      go_wp2_with fail
      go_loopw [7, 8, 9] (fun _ _ _ wr2 => ∃ todo, It Try.prog 3 wr2 w.heap.size wo.heap.size (G.map fun x => (ekI x.1, x.2.1)) todo ∧ Below wo.heap.size wo wr2 ∧ ∀ x ∈ G, (ekI x.1, x.2.1) ∈ todo ∨ sumL x.2.2 = 0) (fun _ _ _ wr2 => wr2.rangeLeft w.heap.size wo.heap.size)
      case atStart => exact ⟨_, HI.out, HBI.out, fun x hx => .inl (List.mem_map.2 ⟨x, hx, rfl⟩)⟩
      case round =>
        obtain ⟨todo, h1, h2, h3⟩ := hrel
        have H1 := Lib.hid h1
        have H2 := Lib.hid h2
        have H3 := Lib.hid h3
        clear h1 h2 h3 hrange
        rcases H1.out.next 0 with ⟨hT, hnext⟩ | ⟨t1, key, v, t2, w1, hT, hnext, hit, hg, hs, hent⟩
        · have hev : evenB ps = true := by
            refine List.all_eq_true.2 (fun p hp => ?_)
            obtain ⟨x, hx, e⟩ := HE0.out.ok.all p hp
            have hz : sumL x.2.2 = 0 := by
              rcases H3.out x hx with h | h
              · rw [hT] at h; simp at h
              · exact h
            rw [HE0.out.ok.amt x hx, e, sum_con] at hz
            simpa using hz
          go_wp2_with fail
          go_ret
          exact ⟨by rw [hev]; rfl, HE0.out.bel.trans (H2.out.mono (Nat.le_of_lt HE0.out.lt))⟩
        · have hmem : (key, v) ∈ G.map fun x => (ekI x.1, x.2.1) := H1.out.sub _ (by rw [hT]; simp)
          obtain ⟨x, hx, hkv⟩ := List.mem_map.1 hmem
          obtain ⟨q, v0, zs⟩ := x
          injection hkv with hk1 hk2
          have hk1' : ekI q = key := hk1
          have hk2' : v0 = v := hk2
          subst hk1'; subst hk2'
          have hb2 : Below wo.heap.size wo w1 := H2.out.grown hg H2.out.size (fun j hj => by injection hj with hj; omega)
          have hown := (HE0.out.gr.own _ hx).up hb2
          have hamt := HE0.out.ok.amt _ hx
          have hzs : ∀ z ∈ zs, Am z := fun z hz => by
            rw [show zs = amts kC q ps from hamt] at hz
            obtain ⟨y, hy, rfl⟩ := List.mem_map.1 hz
            exact (HM.out y (List.mem_filter.1 hy).1).2
          have hzl : zs.length ≤ 1048576 := by
            rw [show zs = amts kC q ps from hamt]
            unfold amts
            rw [List.length_map]
            have := List.length_filter_le (fun x => decide (kC x = q)) ps
            rw [HN.out] at this; omega
          have hsum : sumL zs = sumC q ps := by rw [show zs = amts kC q ps from hamt, sum_con]
          have HS := Lib.hid (sum_am1 hown hzs hzl)
          have HIT := Lib.hid hit
          have HB2 := Lib.hid hb2
          have HT := Lib.hid hT
          have HX := Lib.hid hx
          have HSum := Lib.hid hsum
          have HLt : t1.length + t2.length < todo.length := by rw [hT]; simp
          have HL := Lib.hid HLt
          clear hT hit hg hs hb2 hown hamt hzs hzl hx hmem hk1 hk2 hsum HLt
          unfold ekI at hnext hent
          go_wp2_with fail
          refine HS.out.mono ?_
          rintro e w2 ⟨rfl, hb3⟩
          have HB3 := Lib.hid hb3
          clear hb3 hnext hent
          by_cases hz : sumL zs = 0
          · have t1 : tellV (sumL zs) = 0 := by rw [hz]; rfl
            have t2 : tellE (sumL zs) = 0 := by rw [hz]; rfl
            rw [t1, t2]
            have HZ := Lib.hid hz
            clear hz t1 t2
            go_wp2_with fail
            go_roundw
            case rel =>
              refine ⟨t1 ++ t2, HIT.out.up HB3.out, up2 HB2.out HB3.out, fun y hy => ?_⟩
              rcases H3.out y hy with h | h
              · rw [HT.out] at h
                rcases List.mem_append.1 h with h | h
                · exact .inl (by simp [h])
                · rcases List.mem_cons.1 h with h | h
                  · refine .inr ?_
                    have e1 : ekI y.1 = ekI q := by injection h
                    have e2 := ekI_inj _ _ e1
                    rw [HE0.out.ok.amt y hy, e2]
                    rw [sum_con]
                    rw [← HSum.out]; exact HZ.out
                  · exact .inl (by simp [h])
              · exact .inr h
            case measure =>
              rw [(HIT.out.up HB3.out).left, H1.out.left, List.length_append]
              exact HL.out
          · have hne : (!(tellV (sumL zs) == 0) || !(tellE (sumL zs) == 0)) = true := by
              unfold tellV tellE
              split <;> simp_all
            have hev : evenB ps = false := by
              obtain ⟨p, hp, e⟩ := HE0.out.ok.of _ HX.out
              have e' : p.c = q := e
              refine List.all_eq_false.2 ⟨p, hp, ?_⟩
              rw [e', ← HSum.out]
              simpa using hz
            have HV := Lib.hid hev
            have HN2 := Lib.hid hne
            by_cases ht : tellV (sumL zs) = 0
            · have tb : (tellV (sumL zs) == 0) = true := by simpa using ht
              have te : (tellE (sumL zs) == 0) = false := by
                rw [tb] at hne; simpa using hne
              have tb2 : (tellV (sumL zs) != 0) = false := by rw [bne, tb]; rfl
              have te2 : (tellE (sumL zs) != 0) = true := by rw [bne, te]; rfl
              clear hz hev hne ht tb te
              go_wp2_with fail
              go_ret
              exact ⟨by rw [HV.out]; rfl, HE0.out.bel.trans ((up2 HB2.out HB3.out).mono (Nat.le_of_lt HE0.out.lt))⟩
            · have tb : (tellV (sumL zs) != 0) = true := by simpa using ht
              clear hz hev hne ht
              go_wp2_with fail
              go_ret
              exact ⟨by rw [HV.out]; rfl, HE0.out.bel.trans ((up2 HB2.out HB3.out).mono (Nat.le_of_lt HE0.out.lt))⟩

set_option maxRecDepth 100000 in
set_option maxHeartbeats 1000000 in
theorem even_any (w : World) (a : Option Addr) (n cap : Nat) (ps : List Po) (h : PsA w a ps) (hn : ps.length = n) (h1 : 1 ≤ n) (h2 : n ≤ 1000) (hm : ∀ x ∈ ps, Am x.c ∧ Am x.m) :
    Calls Try.prog 52 #[.slice a n cap] w fun e w' => e = .returned (.bool (evenB ps)) ∧ Below w.heap.size w w' := by
  rcases h with rfl | ⟨b, o, rfl, hc⟩
  · simp at hn; omega
  · exact even_loop w b o n cap ps hc hn h2 hm
end Go.Proofs.Ytginbgclifdfiaa
