/- BookOrder. -/
import Derived.Test.YtealaedcjhofbaaBoJ
namespace Go.Proofs.Ytealaedcjhofbaa
open Go.RowKit

theorem Sb.beside {w0 w w' : World} {p r p' r' : Nat} {S S' : Bs} (h : Sb w0 w p r S) (h' : Sb w0 w p' r' S') (hne : r ≠ r') (q : w.grownBy w' (some r')) : Sb w0 w' p r S :=
  ⟨h.bk.beside h'.bk hne q, h.bel.grown q h.bel.size (fun j hj => by injection hj with hj; have := h'.lo; omega), h.lo⟩
/-- two boxes -/
theorem two_boxes (w : World) (x y : Pc) (V : World) (hV : V = ((w.alloc (.cells #[.int .i64 x.it, .int .i64 x.dy, .int .i64 x.n] 35)).alloc (.cells #[.int .i64 y.it, .int .i64 y.dy, .int .i64 y.n] 35)).drew) :
    Has V w.heap.size 35 #[.int .i64 x.it, .int .i64 x.dy, .int .i64 x.n] ∧ Has V (w.heap.size + 1) 35 #[.int .i64 y.it, .int .i64 y.dy, .int .i64 y.n] ∧ Below w.heap.size w V := by
  subst hV
  refine ⟨((Has.fresh w _ _).more _).up (Below.refl _ _).drew, ?_, ((boxed w _).alloc (by simp) _).drew⟩
  have := Has.fresh (w.alloc (.cells #[.int .i64 x.it, .int .i64 x.dy, .int .i64 x.n] 35)) 35 #[.int .i64 y.it, .int .i64 y.dy, .int .i64 y.n]
  rw [show (w.alloc (.cells #[.int .i64 x.it, .int .i64 x.dy, .int .i64 x.n] 35)).heap.size = w.heap.size + 1 by simp] at this
  exact this.up (Below.refl _ _).drew
theorem Has.kept {w w' : World} {g t : Nat} {cs : Array Value} {row : Nat} (h : Has w g t cs) (q : w.grownBy w' (some row)) (hn : g ≠ row) : Has w' g t cs := (q.block g h.lt (fun e => hn (by injection e))).trans h
/-- what was seen of the first k prices -/
structure Seen (w3 w : World) (mb : Nat) (l : List Pc) (k : Nat) (M : List (Value × Value)) : Prop where
  bel : Below w3.heap.size w3 w
  lo : w3.heap.size ≤ mb
  map : Mp Try.prog 50 w mb M
  tru : ∀ e ∈ M, e.2 = .bool true
  all : ∀ y ∈ l.take k, ∃ e ∈ M, e.1 = prK y
  unl : (l.take k).Pairwise Unl
theorem Seen.up {w3 w w' : World} {mb k : Nat} {l : List Pc} {M : List (Value × Value)} (h : Seen w3 w mb l k M) (q : Below w.heap.size w w') : Seen w3 w' mb l k M :=
  ⟨h.bel.trans (q.mono h.bel.size), h.lo, h.map.up q, h.tru, h.all, h.unl⟩
theorem Seen.put {w3 w w' : World} {mb k : Nat} {l : List Pc} {M M' : List (Value × Value)} {x : Pc} (h : Seen w3 w mb l k M) (hx : l[k]? = some x) (hn : ∀ e ∈ M, e.1 ≠ prK x) (hm : Mp Try.prog 50 w' mb M') (hp : Put M (prK x) (.bool true) M') (g : w.grownBy w' (some mb)) : Seen w3 w' mb l (k + 1) M' := by
  have hM : M' = M ++ [(prK x, .bool true)] := by
    rcases hp with ⟨_, h⟩ | ⟨l1, v0, l2, h, _⟩
    · exact h
    · exact absurd rfl (hn (prK x, v0) (by rw [h]; simp))
  subst hM
  refine ⟨h.bel.grown g h.bel.size (fun j hj => by injection hj with hj; have := h.lo; omega), h.lo, hm, fun e he => ?_, fun y hy => ?_, unl_snoc hx h.unl fun y hy => ?_⟩
  · rcases List.mem_append.1 he with he | he
    · exact h.tru e he
    · rw [List.mem_singleton.1 he]
  · rw [List.take_add_one, hx] at hy
    rcases List.mem_append.1 hy with hy | hy
    · obtain ⟨e, he, q⟩ := h.all y hy
      exact ⟨e, by simp [he], q⟩
    · have hy : y ∈ [x] := hy
      rw [List.mem_singleton.1 hy]
      exact ⟨(prK x, .bool true), by simp, rfl⟩
  · obtain ⟨e, he, q⟩ := h.all y hy
    exact Classical.byContradiction fun z => hn e he (q.trans (prK_inj z))
set_option maxRecDepth 100000 in
set_option maxHeartbeats 16000000 in
theorem order_law (w : World) (a0 : Option Addr) (cap0 : Nat) (I : List Im) (hI : ItA w a0 I) (ha : a0 = none → cap0 = 0) (hp : ∀ x ∈ I, Am x.pri)
    (a1 : Option Addr) (cap1 : Nat) (l : List Pc) (hL : PcA w a1 l) (hm : ∀ x ∈ l, Am x.it ∧ Am x.dy ∧ Am x.n) (item day : Int) :
    Calls Try.prog 5 #[.slice a0 I.length cap0, .slice a1 l.length cap1, .int .i64 item, .int .i64 day] w fun e w' => e = .returned (.bool true) ∧ Below w.heap.size w w' := by
  obtain ⟨n, hn⟩ : ∃ n, n = I.length := ⟨_, rfl⟩
  obtain ⟨m, hml⟩ : ∃ m, m = l.length := ⟨_, rfl⟩
  rw [← hn, ← hml]
  have HI := Lib.hid hI
  have HL := Lib.hid hL
  have HN := Lib.hid hn
  have HML := Lib.hid hml
  have HP := Lib.hid hp
  have HM := Lib.hid hm
  have HA := Lib.hid ha
  have hmk := @run_makeMap Try.prog
  clear hI ha hp hL hm hn hml
  by_cases q : (decide (50 < n) || decide (130 < m)) = true
  · go_enter Try.func5, Try.ntmps5
    go_wp2_with fail
    refine (awake_any10 w).mono ?_
    rintro e w1 ⟨rfl, hb⟩
    have HB1 := Lib.hid hb
    clear hb
    go_wp2_with fail
    refine (large_any a0 a1 n m cap0 cap1 w1).mono ?_
    rintro e w2 ⟨rfl, rfl⟩
    rw [q]
    go_wp2_with fail
    go_ret
    exact ⟨rfl, HB1.out⟩
  · have q0 : (decide (50 < n) || decide (130 < m)) = false := by simpa using q
    have Q0 := Lib.hid q0
    by_cases q1 : 100 < m
    · have hd : decide ((100 : Int) < (m : Int)) = true := decide_eq_true (by omega)
      clear q q0
      go_enter Try.func5, Try.ntmps5
      go_wp2_with fail
      refine (awake_any10 w).mono ?_
      rintro e w1 ⟨rfl, hb⟩
      have HB1 := Lib.hid hb
      clear hb
      go_wp2_with fail
      refine (large_any a0 a1 n m cap0 cap1 w1).mono ?_
      rintro e w2 ⟨rfl, rfl⟩
      rw [Q0.out]
      go_wp2_with fail
      go_ret
      exact ⟨rfl, HB1.out⟩
    · have hd : decide ((100 : Int) < (m : Int)) = false := decide_eq_false (by omega)
      have hm100 : m ≤ 100 := by omega
      have hn50 : n ≤ 50 := by simp at q; omega
      clear q q0 q1
      go_enter Try.func5, Try.ntmps5
      go_wp2_with fail
      refine (awake_any10 w).mono ?_
      rintro e w1 ⟨rfl, hb⟩
      have HB1 := Lib.hid hb
      clear hb
      go_wp2_with fail
      refine (large_any a0 a1 n m cap0 cap1 w1).mono ?_
      rintro e w2 ⟨rfl, rfl⟩
      rw [Q0.out]
      go_wp2_with fail
      by_cases hE : bnewE I = 0
      · refine (bnew_yes a0 n cap0 I w1 HN.out.symm (HI.out.up HB1.out) HA.out HP.out hE).mono ?_
        rintro e w2 ⟨p, r, rfl, hs⟩
        have K2 := Lib.hid hs
        have HE := Lib.hid hE
        clear hs hE
        go_wp2_with fail
        refine (bnew_yes a0 n cap0 I w2 HN.out.symm (HI.out.up (up2 HB1.out K2.out.bel)) HA.out HP.out HE.out).mono ?_
        rintro e w3 ⟨p', r', rfl, hs⟩
        have KA : Hid (Sb w1 w3 p r ⟨I, []⟩) := K2.out.up hs.bel
        have KB : Hid (Sb w1 w3 p' r' ⟨I, []⟩) := ⟨hs.bk, up2 K2.out.bel hs.bel, Nat.le_trans K2.out.bel.size hs.lo⟩
        have hne : r ≠ r' := by have := K2.out.bk.ltr; have := hs.lo; omega
        have HNe := Lib.hid hne
        have h0 : Seen w3 (w3.alloc (.map #[] 0)) w3.heap.size l 0 [] := ⟨boxed _ _, Nat.le_refl _, Mp.fresh w3, by simp, by simp, by simp⟩
        obtain ⟨mb, hmb⟩ : ∃ mb, mb = w3.heap.size := ⟨_, rfl⟩
        rw [← hmb] at h0
        have H0 := Lib.hid h0
        have HMB := Lib.hid hmb
        clear hs hne h0 hmb
        go_wp2_with fail
        rw [← HMB.out]
        clear hmk
        go_loopw [58] (fun i wr => ∃ k : Nat, k ≤ m ∧ i = .int .i64 (k : Int) ∧ ∃ M, Seen w3 wr mb l k M) (fun i _ => m - (intOf i).toNat)
        case atStart => exact ⟨0, Nat.zero_le _, rfl, [], H0.out⟩
        case round =>
          obtain ⟨k, hk, rfl, M, hS⟩ := hrel
          have HS := Lib.hid hS
          clear hS
          by_cases hlt : k < m
          · obtain ⟨x, hx⟩ : ∃ x, l[k]? = some x := ⟨l[k]'(by rw [← HML.out]; exact hlt), List.getElem?_eq_getElem _⟩
            obtain ⟨b, o, hab, c0, c1, c2⟩ := pc_at (((HL.out.up HB1.out).up KA.out.bel).up HS.out.bel) hx
            subst hab
            have hS1 := HS.out.up (boxed wr (.cells #[.int .i64 x.it, .int .i64 x.dy, .int .i64 x.n] 35))
            obtain ⟨W1, hW1⟩ : ∃ W1, W1 = wr.alloc (.cells #[.int .i64 x.it, .int .i64 x.dy, .int .i64 x.n] 35) := ⟨_, rfl⟩
            rw [← hW1] at hS1
            have hmem := HM.out x (List.mem_of_getElem? hx)
            have hky := ky_pair hmem.1 hmem.2.1
            obtain ⟨v, hlook, hv⟩ := hS1.map.look lawPair Try.underlying49 (zeroBool W1) hky
            unfold prK at hlook
            rcases hv with ⟨rfl, hn⟩ | hv
            · obtain ⟨w5, M', hput, hmp, hpt, hg, _⟩ := hS1.map.put (val := .bool true) lawPair Try.underlying49 hky
              have HS5 := Lib.hid (hS1.put hx hn hmp hpt hg)
              unfold prK at hput
              rw [hW1] at hlook hput
              clear hS1 hW1 hmem hky hn hmp hpt hg hx
              go_wp2_with fail
              go_roundw
              case rel => exact ⟨k + 1, by omega, by go_num, M', HS5.out⟩
              case measure => simp [intOf]; omega
            · have hvt : v = .bool true := hS1.tru _ hv
              subst hvt
              have HEnd : Hid (Below w.heap.size w W1) := HB1.out.trans ((KA.out.bel.trans (hS1.bel.mono KA.out.bel.size)).mono HB1.out.size)
              rw [hW1] at hlook HEnd
              clear hS1 hW1 hmem hky hv hx
              go_wp2_with fail
              go_ret
              exact ⟨rfl, HEnd.out⟩
          · obtain rfl : k = m := by omega
            have hu : l.Pairwise Unl := by
              have := HS.out.unl
              rwa [List.take_of_length_le (by rw [HML.out]; exact Nat.le_refl _)] at this
            have HU := Lib.hid hu
            obtain ⟨wo, rfl⟩ : ∃ wo, wo = wr := ⟨_, rfl⟩
            have KA2 := Lib.hid (KA.out.up HS.out.bel)
            have KB2 := Lib.hid (KB.out.up HS.out.bel)
            clear hu
            go_wp2_with fail
            go_loopw [78] (fun i wr2 => ∃ j : Nat, j ≤ k ∧ i = .int .i64 (j : Int) ∧ Sb w1 wr2 p r (setAll ⟨I, []⟩ (l.take j)) ∧ Sb w1 wr2 p' r' (setAll ⟨I, []⟩ (l.reverse.take j))) (fun i _ => k - (intOf i).toNat)
            case atStart => exact ⟨0, Nat.zero_le _, rfl, KA2.out, KB2.out⟩
            case round =>
              obtain ⟨j, hj, rfl, hSA, hSB⟩ := hrel
              have HSA := Lib.hid hSA
              have HSB := Lib.hid hSB
              clear hSA hSB
              by_cases hlt : j < k
              · obtain ⟨x, hx⟩ : ∃ x, l[j]? = some x := ⟨l[j]'(by rw [← HML.out]; exact hlt), List.getElem?_eq_getElem _⟩
                obtain ⟨t, ht⟩ : ∃ t, t = k - 1 - j := ⟨_, rfl⟩
                obtain ⟨y, hy⟩ : ∃ y, l[t]? = some y := ⟨l[t]'(by rw [← HML.out]; omega), List.getElem?_eq_getElem _⟩
                have hy' : l.reverse[j]? = some y := by rw [List.getElem?_reverse (by rw [← HML.out]; exact hlt), ← HML.out, ← ht]; exact hy
                obtain ⟨b, o, hab, c0, c1, c2⟩ := pc_at ((HL.out.up HB1.out).up HSA.out.bel) hx
                subst hab
                obtain ⟨b2, o2, hab, e0, e1, e2⟩ := pc_at ((HL.out.up HB1.out).up HSA.out.bel) hy
                injection hab with hab
                injection hab with hab1 hab2
                subst hab1; subst hab2
                have et : (k : Int) - 1 - (j : Int) = (t : Int) := by omega
                have HX := Lib.hid hx
                have HY := Lib.hid hy
                have HY' := Lib.hid hy'
                have HT : Hid (t < k) := by show t < k; omega
                have htk : t < k := HT.out
                clear hx hy hy' ht
                have n1 : wr.heap.size ≠ b := World.new_ne wr ⟨b, _, none⟩ c0
                have n2 : wr.heap.size + 1 ≠ b := by have := World.block_lt_of_cell? wr ⟨b, o + j * 3, none⟩ c0; simp at this; omega
                have i1 : IntKind.i64.wrap ((k : Int) - 1) = (k : Int) - 1 := IntWalk.i64_in _ (by omega)
                have i2 : IntKind.i64.wrap (t : Int) = (t : Int) := IntWalk.i64_in _ (by omega)
                have i3 : (0 : Int) ≤ (t : Int) := by omega
                have i4 : (t : Int) < (k : Int) := by omega
                go_wp2_with fail
                go_region_held3 (fun w' => w'.cell? ⟨b, o + j * 3, none⟩ = some (.int .i64 x.it) ∧ w'.cell? ⟨b, o + j * 3 + 1, none⟩ = some (.int .i64 x.dy) ∧ w'.cell? ⟨b, o + j * 3 + 2, none⟩ = some (.int .i64 x.n) ∧ w'.cell? ⟨b, o + t * 3, none⟩ = some (.int .i64 y.it) ∧ w'.cell? ⟨b, o + t * 3 + 1, none⟩ = some (.int .i64 y.dy) ∧ w'.cell? ⟨b, o + t * 3 + 2, none⟩ = some (.int .i64 y.n))
                  (go_keep) (fail)
                all_goals
                  first
                    | (obtain ⟨V, hV⟩ : ∃ V, V = ((wr.alloc (.cells #[.int .i64 x.it, .int .i64 x.dy, .int .i64 x.n] 35)).alloc (.cells #[.int .i64 y.it, .int .i64 y.dy, .int .i64 y.n] 35)).drew := ⟨_, rfl⟩
                       rw [← hV]
                       obtain ⟨hxb, hyb, hbV⟩ := two_boxes wr x y V hV)
                    | (obtain ⟨V, hV⟩ : ∃ V, V = ((wr.alloc (.cells #[.int .i64 y.it, .int .i64 y.dy, .int .i64 y.n] 35)).alloc (.cells #[.int .i64 x.it, .int .i64 x.dy, .int .i64 x.n] 35)).drew := ⟨_, rfl⟩
                       rw [← hV]
                       obtain ⟨hyb, hxb, hbV⟩ := two_boxes wr y x V hV)
                  have HVA := Lib.hid (HSA.out.up hbV)
                  have HVB := Lib.hid (HSB.out.up hbV)
                  have HYB := Lib.hid hyb
                  have d0 := hxb.cell 0
                  have d1 := hxb.cell 1
                  have d2 := hxb.cell 2
                  simp only [List.getElem?_toArray, List.getElem?_cons_zero, List.getElem?_cons_succ] at d0 d1 d2
                  clear hV hxb hyb hbV c0 c1 c2 e0 e1 e2 n1 n2 i1 i2 i3 i4 et
                  go_wp2_with fail
                  refine (set_any x.it x.dy x.n HVA.out.bk (HM.out x (List.mem_of_getElem? HX.out)).2.2).mono ?_
                  rintro e w5 ⟨rfl, hR1, hR2⟩
                  have HA5 : Hid (Sb w1 w5 p r (setAll ⟨I, []⟩ (l.take (j + 1)))) := by
                    rw [setAll_take _ _ HX.out]
                    exact HVA.out.of ⟨rfl, hR1, hR2⟩
                  have HB5 : Hid (Sb w1 w5 p' r' (setAll ⟨I, []⟩ (l.reverse.take j))) := HVB.out.beside HVA.out (fun e => HNe.out e.symm) hR2
                  have HY5 := HYB.out.kept hR2 (by have := HSA.out.bk.ltr; omega)
                  have d0' := HY5.cell 0
                  have d1' := HY5.cell 1
                  have d2' := HY5.cell 2
                  simp only [List.getElem?_toArray, List.getElem?_cons_zero, List.getElem?_cons_succ] at d0' d1' d2'
                  clear hR1 hR2 HY5 d0 d1 d2
                  go_wp2_with fail
                  refine (set_any y.it y.dy y.n HB5.out.bk (HM.out y (List.mem_of_getElem? HY.out)).2.2).mono ?_
                  rintro e w6 ⟨rfl, hR1, hR2⟩
                  have HB6 : Hid (Sb w1 w6 p' r' (setAll ⟨I, []⟩ (l.reverse.take (j + 1)))) := by
                    rw [setAll_take _ _ HY'.out]
                    exact HB5.out.of ⟨rfl, hR1, hR2⟩
                  have HA6 : Hid (Sb w1 w6 p r (setAll ⟨I, []⟩ (l.take (j + 1)))) := HA5.out.beside HB5.out HNe.out hR2
                  clear hR1 hR2 d0' d1' d2'
                  go_wp2_with fail
                  go_roundw
                  case rel => exact ⟨j + 1, by omega, by go_num, HA6.out, HB6.out⟩
                  case measure => simp [intOf]; omega
              · obtain rfl : j = k := by omega
                have hsame := order_same I l HU.out (by rw [← HML.out]; exact hm100) item day
                have hA := HSA.out
                have hB := HSB.out
                rw [List.take_of_length_le (by rw [HML.out]; exact Nat.le_refl _)] at hA
                rw [List.take_of_length_le (by rw [List.length_reverse, HML.out]; exact Nat.le_refl _)] at hB
                obtain ⟨SA, hSA⟩ : ∃ S, S = setAll ⟨I, []⟩ l := ⟨_, rfl⟩
                obtain ⟨SB, hSB⟩ : ∃ S, S = setAll ⟨I, []⟩ l.reverse := ⟨_, rfl⟩
                rw [← hSA] at hA hsame
                rw [← hSB] at hB hsame
                have HFA := Lib.hid hA
                have HFB := Lib.hid hB
                have HSm := Lib.hid hsame
                clear hA hB hsame hSA hSB
                go_wp2_with fail
                refine (price_any item day HFA.out.bk).mono ?_
                rintro e w5 ⟨rfl, hb⟩
                have HB5 := Lib.hid (HFB.out.up hb)
                clear hb
                go_wp2_with fail
                refine (price_any item day HB5.out.bk).mono ?_
                rintro e w6 ⟨rfl, hb⟩
                have HB6 := Lib.hid (HB5.out.up hb)
                rw [← HSm.out.1, ← HSm.out.2]
                clear hb
                go_wp2_with fail
                go_ret
                exact ⟨by simp, up2 HB1.out HB6.out.bel⟩
      · refine (bnew_no a0 n cap0 I w1 HN.out.symm (HI.out.up HB1.out) HA.out HP.out rfl hE).mono ?_
        rintro e w2 ⟨rfl, hb⟩
        have HB2 := Lib.hid (up2 HB1.out hb)
        have HE := Lib.hid hE
        clear hb hE
        go_wp2_with fail
        refine (bnew_no a0 n cap0 I w2 HN.out.symm (HI.out.up HB2.out) HA.out HP.out rfl HE.out).mono ?_
        rintro e w3 ⟨rfl, hb⟩
        have HB3 := Lib.hid (up2 HB2.out hb)
        clear hb
        go_wp2_with fail
        go_ret
        exact ⟨rfl, HB3.out⟩
end Go.Proofs.Ytealaedcjhofbaa
