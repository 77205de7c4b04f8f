/- together, on. -/
import Derived.Test.YtklaonoekmhakaaGreatDuC
namespace Go.Proofs.YtklaonoekmhakaaGreat
open Go.RowKit

theorem ln_tag {w : World} {p r : Nat} {S : Bs} {x : Ln} (h : Bk w p r S) (hx : lnB S x = true) : hasB S x.it = true ∧ ((imAt S x).tag = 0 ∨ (imAt S x).tag = 1 ∨ (imAt S x).tag = 2) := by
  have h1 := (lnB_has hx).1
  refine ⟨h1, ?_⟩
  obtain ⟨qa, qc, X, hb⟩ := h
  obtain ⟨h2, h3⟩ := hasB_iff.1 h1
  have hlt : x.it.toNat < S.I.length := by omega
  have hy : S.I[x.it.toNat]? = some S.I[x.it.toNat] := List.getElem?_eq_getElem hlt
  have hm := (hb.fine.items _ (List.mem_of_getElem? hy)).1
  unfold imAt
  rw [hy, Option.getD_some]
  simp only [imB, Bool.and_eq_true, decide_eq_true_eq] at hm
  omega
section
variable {w : World} {p r : Nat} {S : Bs}
set_option maxRecDepth 100000 in
set_option maxHeartbeats 8000000 in
theorem together_any (a : Option Addr) (n cap : Nat) (l : List Ln) (hn : l.length = n) (hn2 : n ≤ 100) (h : Bk w p r S) (hl : LnA w a l) (hall : ∀ x ∈ l, lnB S x = true) :
    Calls Tryz.prog 99 #[.pointer (some ⟨p, 0, none⟩), .slice a n cap] w (TogR w (dKey S l) n) := by
  have HBo : Hid (∀ W, Below w.heap.size w W → ∀ (k : Nat) (x : Ln), l[k]? = some x → Calls Tryz.prog 133 #[.pointer (some ⟨p, 0, none⟩), .agg #[.int .i64 x.it, .int .i64 x.un, .int .i64 x.ch, .int .i64 x.fi, .int .i64 x.la], .int .i64 (k : Int)] W fun e w' => e = .returned (.agg #[.int .i64 (dKey S l k).1, .int .i64 (dKey S l k).2]) ∧ Below W.heap.size W w') := fun W hb k x hx => by
    obtain ⟨h1, h2⟩ := ln_tag h (hall x (List.mem_of_getElem? hx))
    have := bondOf_any x k (h.up hb) h1 h2
    rw [← lnAt_some hx, bond_key] at this
    rw [lnAt_some hx] at this
    exact this
  have HL := Lib.hid hl
  have HN := Lib.hid hn
  obtain ⟨K, hK⟩ : ∃ K, K = dKey S l := ⟨_, rfl⟩
  rw [← hK] at HBo ⊢
  clear h hl hall hn hK
  go_enter Tryz.func99, Tryz.ntmps99
  go_wp2_with fail
  go_loopw [5, 6, 13] (fun vb vr i wr => ∃ k : Nat, k ≤ n ∧ i = .int .i64 (k : Int) ∧ ∃ X, TgS w wr vb vr K k X) (fun _ _ i _ => n - (intOf i).toNat)
  case atStart => exact ⟨0, Nat.zero_le _, rfl, [], TgO.start w, rfl⟩
  case round =>
    obtain ⟨k, hk, rfl, X, hT⟩ := hrel
    have HT := Lib.hid hT
    clear hT
    by_cases hlt : k < n
    · obtain ⟨x, hx⟩ : ∃ x, l[k]? = some x := ⟨l[k]'(by rw [HN.out]; exact hlt), List.getElem?_eq_getElem _⟩
      obtain ⟨b, o, ha, c0, c1, c2, c3, c4⟩ := ln_at (HL.out.up HT.out.o.bel) hx
      subst ha
      have HX := Lib.hid hx
      clear hx
      obtain ⟨a2, cb, hvb, hky⟩ := HT.out.o.keys
      obtain ⟨m, hm⟩ : ∃ m, m = (keysTo K k).length := ⟨_, rfl⟩
      rw [← hm] at hvb
      subst hvb
      have HM := Lib.hid hm
      have hmk : m ≤ k := by rw [hm]; exact keysTo_le K k
      have hXl : X.length = m := by rw [hm]; exact HT.out.len
      have HKy := Lib.hid hky
      have e1 : IntKind.i64.wrap ((k : Int) + 1) = (k : Int) + 1 := IntWalk.i64_in _ (by omega)
      clear hky hm
      go_wp2_with fail
      refine (HBo.out _ (up2 HT.out.o.bel (boxed _ _)) k x HX.out).mono ?_
      rintro e w1 ⟨rfl, hb1⟩
      have HT1 := Lib.hid (HT.out.o.up (up2 (boxed _ _) hb1))
      have HKy1 := Lib.hid (HKy.out.up (up2 (boxed _ _) hb1))
      clear hb1 c0 c1 c2 c3 c4
      go_wp2_with fail
      have hI := indexOf_any a2 m cb (keysTo K k) (K k) (w1.alloc (.cells #[.int .i64 (K k).1, .int .i64 (K k).2] 195)) HM.out.symm (by omega) (HKy1.out.up (boxed _ _))
      unfold keyV at hI
      refine hI.mono ?_
      rintro e w3 ⟨rfl, hb3⟩
      have hh := (Has.fresh w1 195 #[.int .i64 (K k).1, .int .i64 (K k).2]).up hb3
      have HT3 := Lib.hid (HT1.out.up (up2 (boxed _ _) hb3))
      have d0 := hh.cell 0
      have d1 := hh.cell 1
      have hz := hh.lt
      clear hI hb3 hh
      by_cases hf : isFst K k = true
      · have HF := Lib.hid hf
        rw [idx_new hf, ← HM.out]
        clear hf
        obtain ⟨v5, w5, hr5, hT5⟩ := (HT3.out.up (boxed w3 (.cells #[.int .i64 (K k).1, .int .i64 (K k).2] 195))).key (by rw [← HM.out]; omega) (q := K k) (Has.fresh _ _ _)
        obtain ⟨v6, w6, hr6, hT6⟩ := (hT5.up (boxed w5 (.cells #[.slice none 0 0] 49))).row (by omega) (Has.fresh _ _ _)
        have hxx : (X ++ [((.slice none 0 0, []) : Inr)])[m]? = some (.slice none 0 0, []) := by rw [← hXl]; simp
        obtain ⟨g, cg, hv6, g0, g1, hgw⟩ := hT6.get hxx
        rw [List.length_append, hXl, List.length_singleton] at hv6
        subst hv6
        obtain ⟨a8, c8, w8, hr8, k0, k1, hT8⟩ := (hT6.up (boxed w6 (.cells #[.int .i64 (k : Int)] 3))).place (k := k) hxx (by simp) (Has.fresh _ _ _) (g := g) (c := cg) (by rw [List.length_append, hXl, List.length_singleton])
        have H5 := Lib.hid hr5
        have H6 := Lib.hid hr6
        have H8 := Lib.hid hr8
        have HT8 := Lib.hid hT8
        have hxr : ((X ++ [((.slice none 0 0, []) : Inr)]).set m (.slice a8 (0 + 1) c8, [] ++ [k])).map (·.2) = groups K (k + 1) := by
          rw [groups_new HF.out, ← HT.out.rows, ← hXl, List.set_append_right _ _ (Nat.le_refl _)]
          simp
        have HXr := Lib.hid hxr
        clear hr5 hr6 hr8 hT5 hT6 hT8 hxx hxr
        have hmi : (0 : Int) ≤ (m : Int) := by omega
        go_wp2_with (first | (at_builtin; refine wpList_run (o := ⟨some 32, _, _, _, _, _⟩) rfl (.tmp 29) (.tmp 31) 193 rfl _ _ rfl rfl (S := fun u q => v5 = u ∧ w5 = q) ⟨v5, w5, H5.out, rfl, rfl⟩ ?_; rintro u5 q5 ⟨rfl, rfl⟩) | (at_builtin; refine wpList_run (o := ⟨some 35, _, _, _, _, _⟩) rfl (.tmp 33) (.tmp 34) 167 rfl _ _ rfl rfl (S := fun u q => .slice (some ⟨g, 0, none⟩) (m + 1) cg = u ∧ w6 = q) ⟨_, w6, H6.out, rfl, rfl⟩ ?_; rintro u6 q6 ⟨rfl, rfl⟩) | (at_builtin; refine wpList_run (o := ⟨some 44, _, _, _, _, _⟩) rfl (.tmp 41) (.tmp 43) 49 rfl _ _ rfl rfl (S := fun u q => .slice a8 (0 + 1) c8 = u ∧ w8 = q) ⟨_, w8, H8.out, rfl, rfl⟩ ?_; rintro u8 q8 ⟨rfl, rfl⟩) | fail)
        refine ⟨⟨k + 1, by omega, by go_num, _, ⟨?_, HXr.out⟩⟩, by simp [intOf]; omega⟩
        have := HT8.out; rw [← keys_new HF.out] at this; exact this
      · have HF := Lib.hid hf
        obtain ⟨t, i, ht, htl, hti, hKi⟩ := idx_old hf
        rw [ht]
        have htm : t < m := by rw [HM.out]; exact htl
        clear hf ht htl
        obtain ⟨⟨xv, xl⟩, hxx⟩ : ∃ xx, X[t]? = some xx := ⟨X[t]'(by omega), List.getElem?_eq_getElem _⟩
        have hxl : xl = mems K k i := by
          have h1 := congrArg (fun L => L[t]?) HT.out.rows
          simp only [groups, List.getElem?_map, hxx, hti, Option.map_some] at h1
          exact Option.some.inj h1
        have hxn : xl.length ≤ 100 := by
          rw [hxl]
          have := List.length_filter_le (fun j => decide (K j = K i)) (List.range k)
          rw [List.length_range] at this
          show (mems K k i).length ≤ 100
          unfold mems; omega
        obtain ⟨g, cg, hv6, g0, g1, hgw⟩ := HT3.out.get hxx
        rw [hXl] at hv6
        subst hv6
        obtain ⟨a8, c8, w8, hr8, k0, k1, hT8⟩ := (HT3.out.up (boxed w3 (.cells #[.int .i64 (k : Int)] 3))).place (k := k) hxx (by show xl.length ≤ 1000; omega) (Has.fresh _ _ _) (g := g) (c := cg) (by rw [hXl])
        obtain ⟨av, cv, hxv⟩ : ∃ av cv, xv = .slice av xl.length cv := by
          have hL : (tgL (.slice a2 m cb) (.slice (some ⟨g, 0, none⟩) m cg) (keysTo K k) X)[t + 2]? = some (inOb (xv, xl)) := by
            show (X.map inOb)[t]? = _
            rw [List.getElem?_map, hxx]; rfl
          obtain ⟨av, cv, e, _⟩ := HT3.out.own.form hL
          exact ⟨av, cv, e⟩
        subst hxv
        have H8 := Lib.hid hr8
        have HT8 := Lib.hid hT8
        have hxr : (X.set t (.slice a8 (xl.length + 1) c8, xl ++ [k])).map (·.2) = groups K (k + 1) := by
          rw [groups_old HF.out hti hKi, ← hxl, ← HT.out.rows, List.map_set]
        have HXr := Lib.hid hxr
        clear hr8 hT8 hxx hxl hxr hti hKi
        have htm0 : (0 : Int) ≤ (t : Int) := by omega
        have hne : ((t : Int) == (m : Int)) = false := by simp; omega
        go_wp2_with (first | (at_builtin; refine wpList_run (o := ⟨some 44, _, _, _, _, _⟩) rfl (.tmp 41) (.tmp 43) 49 rfl _ _ rfl rfl (S := fun u q => .slice a8 (xl.length + 1) c8 = u ∧ w8 = q) ⟨_, w8, H8.out, rfl, rfl⟩ ?_; rintro u8 q8 ⟨rfl, rfl⟩) | fail)
        refine ⟨⟨k + 1, by omega, by go_num, _, ⟨?_, HXr.out⟩⟩, by simp [intOf]; omega⟩
        have := HT8.out; rw [← keys_old HF.out] at this; exact this
    · obtain rfl : k = n := by omega
      go_wp2_with fail
      refine bodyPost_ret (by simp [results, Tryz.results99, go_sem]) rfl HT.out.done
end
end Go.Proofs.YtklaonoekmhakaaGreat

namespace Go.Proofs.YtklaonoekmhakaaGreat
open Go.RowKit

/-- what put answers, of an obligation that is worth al and has un units so far -/
def putE (S : Bs) (x : Ln) (d al un : Int) : Int := if aloE S x d ≠ 0 then aloE S x d else if tellE (al + aloV S x d) ≠ 0 then tellE (al + aloV S x d) else tellE (un + x.un)
def PutD (w0 w : World) (S : Bs) (x : Ln) (d : Int) (g : Nat) (sl : Value) (al un me fi la : Int) (e : Ending) (w' : World) : Prop :=
  e = .returned (.int .i64 (putE S x d al un)) ∧ Below w0.heap.size w0 w' ∧ w.heap.size ≤ w'.heap.size ∧ (putE S x d al un = 0 → Has w' g 51 #[sl, .int .i64 (al + aloV S x d), .int .i64 (un + x.un), .int .i64 me, .int .i64 (min fi x.fi), .int .i64 (max la x.la)])
section
variable {w0 w : World} {p r : Nat} {S : Bs}
set_option maxRecDepth 100000 in
set_option maxHeartbeats 8000000 in
theorem put_anyD (x : Ln) (d : Int) (h : Bk w0 p r S) (hb : Below w0.heap.size w0 w) {g : Nat} (hg : w0.heap.size ≤ g) {sl : Value} {al un me fi la : Int} (hh : Has w g 51 #[sl, .int .i64 al, .int .i64 un, .int .i64 me, .int .i64 fi, .int .i64 la])
    (a1 : Am al) (a2 : Am un) (a3 : Am x.un) (a4 : Am (aloV S x d)) :
    Calls Tryz.prog 136 #[.pointer (some ⟨g, 0, none⟩), .pointer (some ⟨p, 0, none⟩), x.val, .int .i64 d] w (PutD w0 w S x d g sl al un me fi la) := by
  have HAl := Lib.hid (fun (W : World) (hb : Below w0.heap.size w0 W) => alone_any x d (h.up hb) a3)
  have HAdd := Lib.hid (fun (W : World) => add_any al (aloV S x d) W a1.1 a1.2 a4.1 a4.2)
  have HAdd2 := Lib.hid (fun (W : World) => add_any un x.un W a2.1 a2.2 a3.1 a3.2)
  obtain ⟨P, hP⟩ : ∃ P, P = putE S x d al un := ⟨_, rfl⟩
  have HP := Lib.hid hP
  unfold PutD
  rw [← hP]
  clear hP
  obtain ⟨V, hV⟩ : ∃ V, V = aloV S x d := ⟨_, rfl⟩
  obtain ⟨E, hE⟩ : ∃ E, E = aloE S x d := ⟨_, rfl⟩
  have HPE : Hid (P = if E ≠ 0 then E else if tellE (al + V) ≠ 0 then tellE (al + V) else tellE (un + x.un)) := by
    rw [HP.out, hV, hE]; rfl
  rw [← hV] at HAdd HAl a4 ⊢
  rw [← hE] at HAl
  clear HP h hV hE a1 a2 a3 a4
  obtain ⟨it, xu, ch, xf, xl⟩ := x
  simp only [Ln.val] at HAl HAdd2 HPE ⊢
  have HH := Lib.hid hh
  have HB := Lib.hid hb
  have HG := Lib.hid hg
  clear hh hb hg
  go_enter Tryz.func136, Tryz.ntmps136
  go_wp2_with fail
  refine (HAl.out _ (up2 HB.out (boxed _ _))).mono ?_
  rintro e w1 ⟨rfl, hb1⟩
  have HX := Lib.hid ((Has.fresh w 74 #[.int .i64 it, .int .i64 xu, .int .i64 ch, .int .i64 xf, .int .i64 xl]).up hb1)
  have HH1 := Lib.hid ((HH.out.up (boxed _ _)).up hb1)
  have HB1 := Lib.hid (up2 (up2 HB.out (boxed _ _)) hb1)
  have HZ := Lib.hid (Nat.le_trans (boxed w (.cells #[.int .i64 it, .int .i64 xu, .int .i64 ch, .int .i64 xf, .int .i64 xl] 74)).size hb1.size)
  clear hb1
  by_cases q : E = 0
  · have HP1 : Hid (P = if tellE (al + V) ≠ 0 then tellE (al + V) else tellE (un + xu)) := by have := HPE.out; rw [if_neg (by simpa using q)] at this; exact this
    subst q
    have g0 := HH1.out.cell 0
    have g1 : w1.cell? ⟨g, 1, none⟩ = some (.int .i64 al) := HH1.out.cell 1
    have gf := HH1.out.free 1
    go_wp2_with fail
    refine (HAdd.out _).mono ?_
    rintro e w2 ⟨rfl, hb2⟩
    have HX2 := Lib.hid (HX.out.up hb2)
    have HH2 := Lib.hid (HH1.out.up hb2)
    have HB2 := Lib.hid (up2 HB1.out hb2)
    have HZ2 := Lib.hid (Nat.le_trans HZ.out hb2.size)
    clear hb2 g1 gf
    have g1 : w2.cell? ⟨g, 1, none⟩ = some (.int .i64 al) := HH2.out.cell 1
    have gf := HH2.out.free 1
    by_cases q1 : tellE (al + V) = 0
    · have HP2 : Hid (P = tellE (un + xu)) := by have := HP1.out; rw [if_neg (by simpa using q1)] at this; exact this
      have hv : tellV (al + V) = al + V := by
        unfold tellV; unfold tellE at q1; split at q1 <;> simp_all
      rw [q1, hv]
      have HQ1 := Lib.hid hv
      clear q1 hv
      go_wp2_with fail
      obtain ⟨W0, hW0⟩ : ∃ W0, W0 = w2.setCell ⟨g, 1, none⟩ (.int .i64 (al + V)) := ⟨_, rfl⟩
      rw [← hW0]
      have hgx : w.heap.size ≠ g := by have := HH.out.lt; omega
      have HH3 : Hid (Has W0 g 51 #[sl, .int .i64 (al + V), .int .i64 un, .int .i64 me, .int .i64 fi, .int .i64 la]) := by rw [hW0]; exact HH2.out.put 1 _
      have HX3 : Hid (Has W0 w.heap.size 74 #[.int .i64 it, .int .i64 xu, .int .i64 ch, .int .i64 xf, .int .i64 xl]) := by rw [hW0]; exact HX2.out.off (p := ⟨g, 1, none⟩) hgx _
      have HB3 : Hid (Below w0.heap.size w0 W0) := by rw [hW0]; exact HB2.out.setCell HG.out _
      have HZ3 : Hid (w.heap.size ≤ W0.heap.size) := Lib.hid (by rw [hW0]; have := HZ2.out; simpa using this)
      clear hW0 g1 gf
      have g2 : W0.cell? ⟨g, 2, none⟩ = some (.int .i64 un) := HH3.out.cell 2
      have gf2 := HH3.out.free 2
      have x1 : W0.cell? ⟨w.heap.size, 1, none⟩ = some (.int .i64 xu) := HX3.out.cell 1
      go_region_with (first | (go_at_call 91; ((with_reducible refine (HAdd2.out _).mono ?_); rintro e' w4 ⟨rfl, hb4⟩; have HH4 := Lib.hid ((HH3.out.up (Below.refl _ _).drew).up hb4); have HX4 := Lib.hid ((HX3.out.up (Below.refl _ _).drew).up hb4); have HB4 := Lib.hid (up2 HB3.out.drew hb4); have HZ4 := Lib.hid (Nat.le_trans HZ3.out hb4.size); clear hb4; have u2 : w4.cell? ⟨g, 2, none⟩ = some (.int .i64 un) := HH4.out.cell 2; have uf2 := HH4.out.free 2)))
      all_goals
        by_cases q2 : tellE (un + xu) = 0
        · have hv2 : tellV (un + xu) = un + xu := by
            unfold tellV; unfold tellE at q2; split at q2 <;> simp_all
          have HP3 : Hid (P = 0) := by have := HP2.out; rw [q2] at this; exact this
          rw [q2, hv2]
          clear q2 hv2
          go_wp2_with fail
          obtain ⟨W1, hW1⟩ : ∃ W1, W1 = w4.setCell ⟨g, 2, none⟩ (.int .i64 (un + xu)) := ⟨_, rfl⟩
          rw [← hW1]
          have HH5 : Hid (Has W1 g 51 #[sl, .int .i64 (al + V), .int .i64 (un + xu), .int .i64 me, .int .i64 fi, .int .i64 la]) := by rw [hW1]; exact HH4.out.put 2 _
          have HX5 : Hid (Has W1 w.heap.size 74 #[.int .i64 it, .int .i64 xu, .int .i64 ch, .int .i64 xf, .int .i64 xl]) := by rw [hW1]; exact HX4.out.off (p := ⟨g, 2, none⟩) hgx _
          have HB5 : Hid (Below w0.heap.size w0 W1) := by rw [hW1]; exact HB4.out.setCell HG.out _
          have HZ5 : Hid (w.heap.size ≤ W1.heap.size) := Lib.hid (by rw [hW1]; have := HZ4.out; simpa using this)
          clear hW1 u2 uf2
          have g4 : W1.cell? ⟨g, 4, none⟩ = some (.int .i64 fi) := HH5.out.cell 4
          have g5 : W1.cell? ⟨g, 5, none⟩ = some (.int .i64 la) := HH5.out.cell 5
          have gf4 := HH5.out.free 4
          have gf5 := HH5.out.free 5
          have x3 : W1.cell? ⟨w.heap.size, 3, none⟩ = some (.int .i64 xf) := HX5.out.cell 3
          have x4 : W1.cell? ⟨w.heap.size, 4, none⟩ = some (.int .i64 xl) := HX5.out.cell 4
          go_region
          all_goals
            have hF := (HH5.out.put 4 (.int .i64 (min fi xf))).put 5 (.int .i64 (max la xl))
            have HF := Lib.hid hF
            clear hF g4 g5 gf4 gf5 x3 x4
            go_wp2_with fail
            go_ret
            exact ⟨by rw [HP3.out]; rfl, ((HB5.out.setCell HG.out _).setCell HG.out _).drew, by have := HZ5.out; simpa using this, fun _ => HF.out⟩
        · have hne : (tellE (un + xu) != 0) = true := by simpa using q2
          go_wp2_with fail
          go_ret
          exact ⟨by rw [HP2.out]; rfl, HB4.out.setCell HG.out _, by have := HZ4.out; simpa using this, fun z => absurd (HP2.out.symm.trans z) q2⟩
    · have HP2 : Hid (P = tellE (al + V)) := by have := HP1.out; rw [if_pos q1] at this; exact this
      have hne : (tellE (al + V) != 0) = true := by simpa using q1
      go_wp2_with fail
      go_ret
      refine ⟨by rw [HP2.out]; rfl, HB2.out.setCell HG.out _, by have := HZ2.out; simpa using this, fun z => absurd (HP2.out.symm.trans z) q1⟩
  · have HP1 : Hid (P = E) := by have := HPE.out; rw [if_pos q] at this; exact this
    have hne : (E != 0) = true := by simpa using q
    go_wp2_with fail
    go_ret
    exact ⟨by rw [HP1.out]; rfl, HB1.out, HZ.out, fun z => absurd (HP1.out.symm.trans z) q⟩
end
end Go.Proofs.YtklaonoekmhakaaGreat

namespace Go.Proofs.YtklaonoekmhakaaGreat
open Go.RowKit

theorem sumD_snoc (f : Nat → Int) (l : List Nat) (k : Nat) : sumD f (l ++ [k]) = sumD f l + f k := by
  rw [sumD_append]; simp [sumD]
theorem take_snoc {α : Type} {l : List α} {j : Nat} {x : α} (h : l[j]? = some x) : l.take (j + 1) = l.take j ++ [x] := by
  rw [List.take_add_one, h]; rfl
theorem drop_cons' {α : Type} {l : List α} {j : Nat} {x : α} (h : l[j]? = some x) : l.drop j = x :: l.drop (j + 1) := by
  obtain ⟨h1, rfl⟩ := List.getElem?_eq_some_iff.1 h
  exact List.drop_eq_getElem_cons h1
/-- the obligation of lines at these places -/
def duOf (S : Bs) (l : List Ln) (d : Int) (i : Nat) (ls : List Nat) : Du :=
  ⟨ls, sumD (fun k => aloV S (lnAt l k) d) ls, sumD (fun k => (lnAt l k).un) ls, (imAt S (lnAt l i)).met, minD (fun k => (lnAt l k).fi) i ls, maxD (fun k => (lnAt l k).la) i ls⟩
theorem duAt_of (S : Bs) (l : List Ln) (d : Int) (i : Nat) : duAt S l d i = duOf S l d i (mems (dKey S l) l.length i) := rfl
def owE (S : Bs) (l : List Ln) (d : Int) : List Nat → Int → Int → Int
  | [], _, _ => 0
  | k :: ks, al, un => if putE S (lnAt l k) d al un ≠ 0 then putE S (lnAt l k) d al un else owE S l d ks (al + aloV S (lnAt l k) d) (un + (lnAt l k).un)
/-- are these too much? -/
def dOver (S : Bs) (l : List Ln) (d : Int) (ls : List Nat) : Bool := (ls.any fun k => decide (aloE S (lnAt l k) d ≠ 0)) || !am64 (sumD (fun k => aloV S (lnAt l k) d) ls) || !am64 (sumD (fun k => (lnAt l k).un) ls)
theorem tellE_du (v : Int) : tellE v = if am64 v = true then 0 else 3 := by
  unfold tellE
  by_cases q : am64 v = true
  · rw [if_pos q]; have := am64_iff.1 q; unfold Am at this; rw [if_pos this]
  · rw [if_neg q, if_neg]; intro z; exact q (am64_iff.2 z)
theorem tellV_du {v : Int} (h : am64 v = true) : tellV v = v := by
  have := am64_iff.1 h; unfold Am at this; unfold tellV; rw [if_pos this]
theorem aloE_cases {S : Bs} {x : Ln} {d : Int} (hx : lnB S x = true) (hd : 0 ≤ d) : aloE S x d = 0 ∨ aloE S x d = 3 := by
  unfold aloE
  rw [hx, if_neg (by simp), if_neg (by omega), tellE_du]
  split <;> simp
theorem aloV_nn {S : Bs} (x : Ln) (d : Int) (hv : 0 ≤ priV S x.it d * x.un) : 0 ≤ aloV S x d := by
  unfold aloV tellV
  split
  · omega
  · split
    · omega
    · split <;> omega
theorem sumD_nn {f : Nat → Int} {l : List Nat} (h : ∀ k ∈ l, 0 ≤ f k) : 0 ≤ sumD f l := by
  induction l with
  | nil => exact Int.le_refl _
  | cons x l ih => simp only [sumD]; have := h x (by simp); have := ih fun k hk => h k (by simp [hk]); omega
/-- owed's error: of sums that do not fall -/
theorem owE_is {S : Bs} {l : List Ln} {d : Int} (hd : 0 ≤ d) : ∀ (ls : List Nat) (al un : Int), (∀ k ∈ ls, lnB S (lnAt l k) = true ∧ 0 ≤ aloV S (lnAt l k) d ∧ 0 ≤ (lnAt l k).un) → 0 ≤ al → 0 ≤ un → am64 al = true → am64 un = true →
    owE S l d ls al un = if (ls.any fun k => decide (aloE S (lnAt l k) d ≠ 0)) || !am64 (al + sumD (fun k => aloV S (lnAt l k) d) ls) || !am64 (un + sumD (fun k => (lnAt l k).un) ls) then 3 else 0
  | [], al, un, _, _, _, h1, h2 => by simp [owE, sumD, h1, h2]
  | k :: ks, al, un, h, ha, hu, h1, h2 => by
    obtain ⟨k1, k2, k3⟩ := h k (by simp)
    have hr : ∀ j ∈ ks, lnB S (lnAt l j) = true ∧ 0 ≤ aloV S (lnAt l j) d ∧ 0 ≤ (lnAt l j).un := fun j hj => h j (by simp [hj])
    have n1 : 0 ≤ sumD (fun k => aloV S (lnAt l k) d) ks := sumD_nn fun j hj => (hr j hj).2.1
    have n2 : 0 ≤ sumD (fun k => (lnAt l k).un) ks := sumD_nn fun j hj => (hr j hj).2.2
    have e1 : al + sumD (fun k => aloV S (lnAt l k) d) (k :: ks) = al + aloV S (lnAt l k) d + sumD (fun k => aloV S (lnAt l k) d) ks := by simp only [sumD]; omega
    have e2 : un + sumD (fun k => (lnAt l k).un) (k :: ks) = un + (lnAt l k).un + sumD (fun k => (lnAt l k).un) ks := by simp only [sumD]; omega
    rw [e1, e2]
    unfold owE putE
    rw [tellE_du, tellE_du]
    rcases aloE_cases k1 hd with q | q
    · rw [q]
      simp only [ne_eq, not_true_eq_false, if_false]
      by_cases p1 : am64 (al + aloV S (lnAt l k) d) = true
      · rw [if_pos p1]
        simp only [not_true_eq_false, if_false]
        by_cases p2 : am64 (un + (lnAt l k).un) = true
        · rw [if_pos p2]
          simp only [not_true_eq_false, if_false]
          rw [owE_is hd ks _ _ hr (by omega) (by omega) p1 p2, List.any_cons, q]
          simp
        · rw [if_neg p2]
          have : am64 (un + (lnAt l k).un + sumD (fun k => (lnAt l k).un) ks) = false := by
            cases z : am64 (un + (lnAt l k).un + sumD (fun k => (lnAt l k).un) ks) with
            | false => rfl
            | true =>
              have := am64_iff.1 z
              exact absurd (am64_iff.2 (by unfold Am at *; omega)) p2
          simp [this]
      · rw [if_neg p1]
        have : am64 (al + aloV S (lnAt l k) d + sumD (fun k => aloV S (lnAt l k) d) ks) = false := by
          cases z : am64 (al + aloV S (lnAt l k) d + sumD (fun k => aloV S (lnAt l k) d) ks) with
          | false => rfl
          | true =>
            have := am64_iff.1 z
            exact absurd (am64_iff.2 (by unfold Am at *; omega)) p1
        simp [this]
    · rw [q]; simp [q]
theorem owE_over {S : Bs} {l : List Ln} {d : Int} (hd : 0 ≤ d) (ls : List Nat) (h : ∀ k ∈ ls, lnB S (lnAt l k) = true ∧ 0 ≤ aloV S (lnAt l k) d ∧ 0 ≤ (lnAt l k).un) : owE S l d ls 0 0 = if dOver S l d ls = true then 3 else 0 := by
  rw [owE_is hd ls 0 0 h (Int.le_refl _) (Int.le_refl _) rfl rfl, Int.zero_add, Int.zero_add]; rfl
/-- too much, of all: of one of them -/
theorem duOver_any (S : Bs) (l : List Ln) (d : Int) : duOver S l d = (fsts (dKey S l) l.length).any fun i => dOver S l d (mems (dKey S l) l.length i) := by
  unfold duOver duties
  rw [Bool.eq_iff_iff]
  simp only [Bool.or_eq_true, List.any_eq_true, List.mem_map, decide_eq_true_eq, dOver]
  constructor
  · rintro (⟨x, hx, h⟩ | ⟨_, ⟨i, hi, rfl⟩, h⟩)
    · obtain ⟨k, hk⟩ := List.getElem?_of_mem hx
      have hlt := (List.getElem?_eq_some_iff.1 hk).1
      obtain ⟨i, hi, e, _⟩ := fst_ex (K := dKey S l) hlt
      exact ⟨i, hi, .inl (.inl ⟨k, mem_mems.2 ⟨hlt, e.symm⟩, by rw [lnAt_some hk]; exact h⟩)⟩
    · refine ⟨i, hi, ?_⟩
      rcases h with h | h
      · exact .inl (.inr h)
      · exact .inr h
  · rintro ⟨i, hi, (⟨k, hk, h⟩ | h) | h⟩
    · have hlt := (mem_mems.1 hk).1
      refine .inl ⟨l[k], List.getElem_mem hlt, ?_⟩
      rw [← lnAt_some (List.getElem?_eq_getElem hlt)]; exact h
    · exact .inr ⟨_, ⟨i, hi, rfl⟩, .inl h⟩
    · exact .inr ⟨_, ⟨i, hi, rfl⟩, .inr h⟩
end Go.Proofs.YtklaonoekmhakaaGreat
