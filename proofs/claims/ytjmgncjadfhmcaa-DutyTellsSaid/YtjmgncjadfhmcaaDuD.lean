/- together, on. -/
import Derived.Test.YtjmgncjadfhmcaaDuC
namespace Go.Proofs.Ytjmgncjadfhmcaa
open Go.RowKit

theorem ln_tag {w : World} {p r : Nat} {S : Bs} {x : Ln} (h : Bk w p r S) (hx : lnB S x = true) : hasB S x.it = true ∧ ((imAt S x).tag = 0 ∨ (imAt S x).tag = 1 ∨ (imAt S x).tag = 2) := by
  have h1 := (lnB_has hx).1
  refine ⟨h1, ?_⟩
  obtain ⟨qa, qc, X, hb⟩ := h
  obtain ⟨h2, h3⟩ := hasB_iff.1 h1
  have hlt : x.it.toNat < S.I.length := by omega
  have hy : S.I[x.it.toNat]? = some S.I[x.it.toNat] := List.getElem?_eq_getElem hlt
  have hm := (hb.fine.items _ (List.mem_of_getElem? hy)).1
  unfold imAt
  rw [hy, Option.getD_some]
  simp only [imB, Bool.and_eq_true, decide_eq_true_eq] at hm
  omega
section
variable {w : World} {p r : Nat} {S : Bs}
set_option maxRecDepth 100000 in
set_option maxHeartbeats 8000000 in
theorem together_any (a : Option Addr) (n cap : Nat) (l : List Ln) (hn : l.length = n) (hn2 : n ≤ 100) (h : Bk w p r S) (hl : LnA w a l) (hall : ∀ x ∈ l, lnB S x = true) :
    Calls Try.prog 23 #[.pointer (some ⟨p, 0, none⟩), .slice a n cap] w (TogR w (dKey S l) n) := by
  have HBo : Hid (∀ W, Below w.heap.size w W → ∀ (k : Nat) (x : Ln), l[k]? = some x → Calls Try.prog 38 #[.pointer (some ⟨p, 0, none⟩), .agg #[.int .i64 x.it, .int .i64 x.un, .int .i64 x.ch, .int .i64 x.fi, .int .i64 x.la], .int .i64 (k : Int)] W fun e w' => e = .returned (.agg #[.int .i64 (dKey S l k).1, .int .i64 (dKey S l k).2]) ∧ Below W.heap.size W w') := fun W hb k x hx => by
    obtain ⟨h1, h2⟩ := ln_tag h (hall x (List.mem_of_getElem? hx))
    have := bondOf_any x k (h.up hb) h1 h2
    rw [← lnAt_some hx, bond_key] at this
    rw [lnAt_some hx] at this
    exact this
  have HL := Lib.hid hl
  have HN := Lib.hid hn
  obtain ⟨K, hK⟩ : ∃ K, K = dKey S l := ⟨_, rfl⟩
  rw [← hK] at HBo ⊢
  clear h hl hall hn hK
  go_enter Try.func23, Try.ntmps23
  go_wp2_with fail
  go_loopw [5, 6, 13] (fun vb vr i wr => ∃ k : Nat, k ≤ n ∧ i = .int .i64 (k : Int) ∧ ∃ X, TgS w wr vb vr K k X) (fun _ _ i _ => n - (intOf i).toNat)
  case atStart => exact ⟨0, Nat.zero_le _, rfl, [], TgO.start w, rfl⟩
  case round =>
    obtain ⟨k, hk, rfl, X, hT⟩ := hrel
    have HT := Lib.hid hT
    clear hT
    by_cases hlt : k < n
    · obtain ⟨x, hx⟩ : ∃ x, l[k]? = some x := ⟨l[k]'(by rw [HN.out]; exact hlt), List.getElem?_eq_getElem _⟩
      obtain ⟨b, o, ha, c0, c1, c2, c3, c4⟩ := ln_at (HL.out.up HT.out.o.bel) hx
      subst ha
      have HX := Lib.hid hx
      clear hx
      obtain ⟨a2, cb, hvb, hky⟩ := HT.out.o.keys
      obtain ⟨m, hm⟩ : ∃ m, m = (keysTo K k).length := ⟨_, rfl⟩
      rw [← hm] at hvb
      subst hvb
      have HM := Lib.hid hm
      have hmk : m ≤ k := by rw [hm]; exact keysTo_le K k
      have hXl : X.length = m := by rw [hm]; exact HT.out.len
      have HKy := Lib.hid hky
      have e1 : IntKind.i64.wrap ((k : Int) + 1) = (k : Int) + 1 := IntWalk.i64_in _ (by omega)
      clear hky hm
      go_wp2_with fail
      refine (HBo.out _ (up2 HT.out.o.bel (boxed _ _)) k x HX.out).mono ?_
      rintro e w1 ⟨rfl, hb1⟩
      have HT1 := Lib.hid (HT.out.o.up (up2 (boxed _ _) hb1))
      have HKy1 := Lib.hid (HKy.out.up (up2 (boxed _ _) hb1))
      clear hb1 c0 c1 c2 c3 c4
      go_wp2_with fail
      have hI := indexOf_any a2 m cb (keysTo K k) (K k) (w1.alloc (.cells #[.int .i64 (K k).1, .int .i64 (K k).2] 88)) HM.out.symm (by omega) (HKy1.out.up (boxed _ _))
      unfold keyV at hI
      refine hI.mono ?_
      rintro e w3 ⟨rfl, hb3⟩
      have hh := (Has.fresh w1 88 #[.int .i64 (K k).1, .int .i64 (K k).2]).up hb3
      have HT3 := Lib.hid (HT1.out.up (up2 (boxed _ _) hb3))
      have d0 := hh.cell 0
      have d1 := hh.cell 1
      have hz := hh.lt
      clear hI hb3 hh
      by_cases hf : isFst K k = true
      · have HF := Lib.hid hf
        rw [idx_new hf, ← HM.out]
        clear hf
        obtain ⟨v5, w5, hr5, hT5⟩ := (HT3.out.up (boxed w3 (.cells #[.int .i64 (K k).1, .int .i64 (K k).2] 88))).key (by rw [← HM.out]; omega) (q := K k) (Has.fresh _ _ _)
        obtain ⟨v6, w6, hr6, hT6⟩ := (hT5.up (boxed w5 (.cells #[.slice none 0 0] 40))).row (by omega) (Has.fresh _ _ _)
        have hxx : (X ++ [((.slice none 0 0, []) : Inr)])[m]? = some (.slice none 0 0, []) := by rw [← hXl]; simp
        obtain ⟨g, cg, hv6, g0, g1, hgw⟩ := hT6.get hxx
        rw [List.length_append, hXl, List.length_singleton] at hv6
        subst hv6
        obtain ⟨a8, c8, w8, hr8, k0, k1, hT8⟩ := (hT6.up (boxed w6 (.cells #[.int .i64 (k : Int)] 3))).place (k := k) hxx (by simp) (Has.fresh _ _ _) (g := g) (c := cg) (by rw [List.length_append, hXl, List.length_singleton])
        have H5 := Lib.hid hr5
        have H6 := Lib.hid hr6
        have H8 := Lib.hid hr8
        have HT8 := Lib.hid hT8
        have hxr : ((X ++ [((.slice none 0 0, []) : Inr)]).set m (.slice a8 (0 + 1) c8, [] ++ [k])).map (·.2) = groups K (k + 1) := by
          rw [groups_new HF.out, ← HT.out.rows, ← hXl, List.set_append_right _ _ (Nat.le_refl _)]
          simp
        have HXr := Lib.hid hxr
        clear hr5 hr6 hr8 hT5 hT6 hT8 hxx hxr
        have hmi : (0 : Int) ≤ (m : Int) := by omega
        go_wp2_with (first | (at_builtin; refine wpList_run (o := ⟨some 32, _, _, _, _, _⟩) rfl (.tmp 29) (.tmp 31) 86 rfl _ _ rfl rfl (S := fun u q => v5 = u ∧ w5 = q) ⟨v5, w5, H5.out, rfl, rfl⟩ ?_; rintro u5 q5 ⟨rfl, rfl⟩) | (at_builtin; refine wpList_run (o := ⟨some 35, _, _, _, _, _⟩) rfl (.tmp 33) (.tmp 34) 68 rfl _ _ rfl rfl (S := fun u q => .slice (some ⟨g, 0, none⟩) (m + 1) cg = u ∧ w6 = q) ⟨_, w6, H6.out, rfl, rfl⟩ ?_; rintro u6 q6 ⟨rfl, rfl⟩) | (at_builtin; refine wpList_run (o := ⟨some 44, _, _, _, _, _⟩) rfl (.tmp 41) (.tmp 43) 40 rfl _ _ rfl rfl (S := fun u q => .slice a8 (0 + 1) c8 = u ∧ w8 = q) ⟨_, w8, H8.out, rfl, rfl⟩ ?_; rintro u8 q8 ⟨rfl, rfl⟩) | fail)
        refine ⟨⟨k + 1, by omega, by go_num, _, ⟨?_, HXr.out⟩⟩, by simp [intOf]; omega⟩
        have := HT8.out; rw [← keys_new HF.out] at this; exact this
      · have HF := Lib.hid hf
        obtain ⟨t, i, ht, htl, hti, hKi⟩ := idx_old hf
        rw [ht]
        have htm : t < m := by rw [HM.out]; exact htl
        clear hf ht htl
        obtain ⟨⟨xv, xl⟩, hxx⟩ : ∃ xx, X[t]? = some xx := ⟨X[t]'(by omega), List.getElem?_eq_getElem _⟩
        have hxl : xl = mems K k i := by
          have h1 := congrArg (fun L => L[t]?) HT.out.rows
          simp only [groups, List.getElem?_map, hxx, hti, Option.map_some] at h1
          exact Option.some.inj h1
        have hxn : xl.length ≤ 100 := by
          rw [hxl]
          have := List.length_filter_le (fun j => decide (K j = K i)) (List.range k)
          rw [List.length_range] at this
          show (mems K k i).length ≤ 100
          unfold mems; omega
        obtain ⟨g, cg, hv6, g0, g1, hgw⟩ := HT3.out.get hxx
        rw [hXl] at hv6
        subst hv6
        obtain ⟨a8, c8, w8, hr8, k0, k1, hT8⟩ := (HT3.out.up (boxed w3 (.cells #[.int .i64 (k : Int)] 3))).place (k := k) hxx (by show xl.length ≤ 1000; omega) (Has.fresh _ _ _) (g := g) (c := cg) (by rw [hXl])
        obtain ⟨av, cv, hxv⟩ : ∃ av cv, xv = .slice av xl.length cv := by
          have hL : (tgL (.slice a2 m cb) (.slice (some ⟨g, 0, none⟩) m cg) (keysTo K k) X)[t + 2]? = some (inOb (xv, xl)) := by
            show (X.map inOb)[t]? = _
            rw [List.getElem?_map, hxx]; rfl
          obtain ⟨av, cv, e, _⟩ := HT3.out.own.form hL
          exact ⟨av, cv, e⟩
        subst hxv
        have H8 := Lib.hid hr8
        have HT8 := Lib.hid hT8
        have hxr : (X.set t (.slice a8 (xl.length + 1) c8, xl ++ [k])).map (·.2) = groups K (k + 1) := by
          rw [groups_old HF.out hti hKi, ← hxl, ← HT.out.rows, List.map_set]
        have HXr := Lib.hid hxr
        clear hr8 hT8 hxx hxl hxr hti hKi
        have htm0 : (0 : Int) ≤ (t : Int) := by omega
        have hne : ((t : Int) == (m : Int)) = false := by simp; omega
        go_wp2_with (first | (at_builtin; refine wpList_run (o := ⟨some 44, _, _, _, _, _⟩) rfl (.tmp 41) (.tmp 43) 40 rfl _ _ rfl rfl (S := fun u q => .slice a8 (xl.length + 1) c8 = u ∧ w8 = q) ⟨_, w8, H8.out, rfl, rfl⟩ ?_; rintro u8 q8 ⟨rfl, rfl⟩) | fail)
        refine ⟨⟨k + 1, by omega, by go_num, _, ⟨?_, HXr.out⟩⟩, by simp [intOf]; omega⟩
        have := HT8.out; rw [← keys_old HF.out] at this; exact this
    · obtain rfl : k = n := by omega
      go_wp2_with fail
      refine bodyPost_ret (by simp [results, Try.results23, go_sem]) rfl HT.out.done
end
end Go.Proofs.Ytjmgncjadfhmcaa
