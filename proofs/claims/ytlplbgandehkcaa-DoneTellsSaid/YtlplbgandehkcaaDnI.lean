/- DoneOrder: its core's walk. -/
import Derived.Test.YtlplbgandehkcaaDnH
namespace Go.Proofs.Ytlplbgandehkcaa
open Go.RowKit

theorem own_has {w : World} {B T z n b o c : Nat} {xs : List Value} (h : w.ownsRow B T z (.slice (some ⟨b, o, none⟩) n c) n xs) : ∃ cs, Has w b T cs := by
  rcases h.2 with ⟨e, _⟩ | ⟨g, cap, cur, e, _, h3, _⟩
  · cases e
  · injection e with e
    injection e with e
    injection e with e1 e2
    subst e1
    exact ⟨cur, h3⟩
theorem Oth.cell {w w' : World} (h : Oth w w') {b T : Nat} {cs : Array Value} (hh : Has w b T cs) (h1 : T ≠ 52) (h2 : T ≠ 54) {k : Nat} {v : Value} (hk : w.cell? ⟨b, k, none⟩ = some v) : w'.cell? ⟨b, k, none⟩ = some v := by
  rw [(h b T cs hh h1 h2).cell, ← hh.cell]; exact hk
set_option maxRecDepth 100000 in
set_option maxHeartbeats 16000000 in
theorem order_law14 (d : Dt) (da : Option Addr) (dc : Nat) (a1 : Option Addr) (c1 : Nat) (l : List Tl) (day : Int) (w : World) (hI : InA w da d.ls) (hda : da = none → dc = 0) (hR : TlA w a1 l) (hAm : AmT l) :
    Calls Try.prog 5 #[d.val da dc, .slice a1 l.length c1, .int .i64 day] w fun e w' => e = .returned (.bool true) ∧ Below w.heap.size w w' := by
  have HAw := Lib.hid (fun (W : World) => awake_any14 W)
  have HF := Lib.hid (fun (q : dtB d = true) (l : List Tl) => (FineT.nil q).all l)
  have HNo := Lib.hid (fun (W : World) (q : dtB d = false) => tnew_no (w := W) (d := d) (a := da) (c := dc) q)
  have HNew := Lib.hid (fun (W : World) (q : dtB d = true) (q2 : d.ls.length ≤ 17592186044416) (q3 : Below w.heap.size w W) => tnew_yes (w := W) (d := d) (a := da) (c := dc) q q2 (hI.up q3) hda)
  have HTell := Lib.hid (fun (w0 W : World) (p : Nat) (E : List Tl) (h : Tg w0 W p d E) (a b : Int) (q : Am b) => tell_oth h a b q)
  have HThr := Lib.hid (fun (w0 W : World) (p : Nat) (E : List Tl) (h : Tg w0 W p d E) (a : Int) => h.thr a)
  have HMany := Lib.hid (fun (w0 W : World) (p : Nat) (E : List Tl) (h : Tg w0 W p d E) => h.many)
  have HR := Lib.hid hR
  have HAm := Lib.hid hAm
  obtain ⟨n, hn⟩ : ∃ n, n = l.length := ⟨_, rfl⟩
  have HN := Lib.hid hn
  obtain ⟨D, hD⟩ : ∃ D, D = d := ⟨_, rfl⟩
  rw [← hD] at HNo HNew HTell HThr HF HMany
  unfold Dt.val at HNo HNew ⊢
  rw [← hD, ← hn]
  unfold ThrR at HThr
  unfold TelO TelR at HTell
  obtain ⟨m, hm⟩ : ∃ m, m = D.ls.length := ⟨_, rfl⟩
  rw [← hm] at HNo HNew ⊢
  obtain ⟨al, hal⟩ : ∃ al, al = D.al := ⟨_, rfl⟩
  obtain ⟨un, hun⟩ : ∃ un, un = D.un := ⟨_, rfl⟩
  obtain ⟨me, hme⟩ : ∃ me, me = D.me := ⟨_, rfl⟩
  obtain ⟨fi, hfi⟩ : ∃ fi, fi = D.fi := ⟨_, rfl⟩
  obtain ⟨lA, hlA⟩ : ∃ lA, lA = D.la := ⟨_, rfl⟩
  rw [← hal, ← hun, ← hme, ← hfi, ← hlA] at HNo HNew ⊢
  clear hI hda hR hAm hn hD hal hun hme hfi hlA hm d
  go_enter Try.func5, Try.ntmps5
  go_wp2_with fail
  have HXB := Lib.hid (Has.fresh w 24 #[.slice da m dc, .int .i64 al, .int .i64 un, .int .i64 me, .int .i64 fi, .int .i64 lA])
  refine (HAw.out _).mono ?_
  rintro e w1 ⟨rfl, hb⟩
  have hx := HXB.out.up hb
  have x0 := hx.cell 0
  have x1 := hx.cell 1
  have x2 := hx.cell 2
  have x3 := hx.cell 3
  have x4 := hx.cell 4
  have x5 := hx.cell 5
  simp at x0 x1 x2 x3 x4 x5
  have HB1 := Lib.hid (up2 (boxed _ _) hb)
  have HX1 := Lib.hid hx
  clear hb hx
  by_cases g1 : 220 < n
  · have g1' : (220 : Int) < (n : Int) := by omega
    clear g1
    go_wp2_with fail
    go_ret
    exact ⟨rfl, HB1.out⟩
  by_cases g2 : 20 < m
  · have g1' : ¬ (220 : Int) < (n : Int) := by omega
    have g2' : (20 : Int) < (m : Int) := by omega
    clear g1 g2
    go_wp2_with fail
    go_ret
    exact ⟨rfl, HB1.out⟩
  have g1' : ¬ (220 : Int) < (n : Int) := by omega
  have g2' : ¬ (20 : Int) < (m : Int) := by omega
  cases hd : dtB D with
  | false =>
    have HN0 := Lib.hid (fun (W : World) => HNo.out W hd)
    clear g1 g2 hd
    go_wp2_with fail
    refine (HN0.out _).mono ?_
    rintro e w2 ⟨rfl, hb⟩
    have hx := HX1.out.up hb
    have x0 := hx.cell 0
    have x1 := hx.cell 1
    have x2 := hx.cell 2
    have x3 := hx.cell 3
    have x4 := hx.cell 4
    have x5 := hx.cell 5
    simp at x0 x1 x2 x3 x4 x5
    have HB2 := Lib.hid (up2 HB1.out hb)
    clear hb hx
    go_wp2_with fail
    refine (HN0.out _).mono ?_
    rintro e w3 ⟨rfl, hb⟩
    have HB3 := Lib.hid (up2 HB2.out hb)
    clear hb x0 x1 x2 x3 x4 x5
    go_wp2_with fail
    go_ret
    exact ⟨by simp, HB3.out⟩
  | true =>
    have HN1 := Lib.hid (fun (W : World) => HNew.out W hd (by omega))
    have HF1 := Lib.hid (HF.out hd)
    have hn2 : n ≤ 220 := by omega
    clear g1 g2 hd
    go_wp2_with fail
    refine (HN1.out _ HB1.out).mono ?_
    rintro e w2 ⟨px, rfl, hs, hp⟩
    have hb := hs.bel hp
    have HB2 := Lib.hid (up2 HB1.out hb)
    have HS := Lib.hid hs
    have hx := HX1.out.up hb
    have x0 := hx.cell 0
    have x1 := hx.cell 1
    have x2 := hx.cell 2
    have x3 := hx.cell 3
    have x4 := hx.cell 4
    have x5 := hx.cell 5
    simp at x0 x1 x2 x3 x4 x5
    have HPx : Hid (w.heap.size ≤ px) := Lib.hid (Nat.le_trans HB1.out.size hp)
    clear hs hp hb hx
    go_wp2_with fail
    refine (HN1.out _ HB2.out).mono ?_
    rintro e w3 ⟨py, rfl, hs, hp⟩
    have hb := hs.bel hp
    have HB3 := Lib.hid (up2 HB2.out hb)
    have HX := Lib.hid (HS.out.up hb).base
    have HY := Lib.hid hs.base
    have HPy : Hid (w.heap.size ≤ py) := Lib.hid (Nat.le_trans HB2.out.size hp)
    have HNe : Hid (py ≠ px) := Lib.hid (by have := HS.out.lt; omega)
    clear hs hp hb x0 x1 x2 x3 x4 x5 g1' g2'
    go_wp2_with fail
    go_loopw [11, 54] (fun v i wr => ∃ k : Nat, k ≤ n ∧ i = .int .i64 (k : Int) ∧ ∃ E a c, E = tells D.me (l.take k) [] ∧ v = .slice a E.length c ∧ Tg w3 wr px D E ∧ wr.ownsRow w3.heap.size 35 2 (.slice a E.length c) E.length (E.flatMap tlC)) (fun _ i _ => n - (intOf i).toNat)
    case atStart => exact ⟨0, Nat.zero_le _, rfl, [], none, 0, rfl, rfl, HX.out, World.ownsRow_nil _ _ _ _⟩
    case round =>
      obtain ⟨k, hk, rfl, E, a, c, hE, rfl, hT, ho⟩ := hrel
      have HT := Lib.hid hT
      have HO := Lib.hid ho
      have HE := Lib.hid hE
      have HBr := Lib.hid (HB3.out.grown hT.kp HB3.out.size (fun j hj => by injection hj with hj; have := HPx.out; omega))
      have hel : E.length ≤ 220 := by
        have := tells_len D.me (l.take k) []
        rw [hE]
        rw [List.length_take] at this
        simp at this
        omega
      obtain ⟨L, hL⟩ : ∃ L, L = E.length := ⟨_, rfl⟩
      rw [← hL] at hel ⊢
      have HL := Lib.hid hL
      rw [← hL] at HO
      clear hT ho hE hL
      by_cases hlt : k < n
      · obtain ⟨y, hy⟩ : ∃ y, l[k]? = some y := ⟨l[k]'(by rw [← HN.out]; exact hlt), List.getElem?_eq_getElem _⟩
        obtain ⟨b, o, rfl, c0, c1⟩ := tl_at (HR.out.up HBr.out) hy
        have hay := (HAm.out y (List.mem_of_getElem? hy)).2
        have HSt := Lib.hid (tells_step (m := D.me) (E := []) hy)
        have e1 : IntKind.i64.wrap ((k : Int) + 1) = (k : Int) + 1 := IntWalk.i64_in _ (by omega)
        obtain ⟨A, C⟩ := y
        simp only at c0 c1 hay
        obtain ⟨W1, hW1⟩ : ∃ W1, W1 = wr.alloc (.cells #[.int .i64 A, .int .i64 C] 35) := ⟨_, rfl⟩
        have HT1 : Hid (Tg w3 W1 px D E) := by rw [hW1]; exact Lib.hid (HT.out.up (boxed _ _))
        have HO1 : Hid (W1.ownsRow w3.heap.size 35 2 (.slice a L c) L (E.flatMap tlC)) := by rw [hW1]; exact Lib.hid (own_up HO.out (boxed _ _))
        have HBox : Hid (Has W1 wr.heap.size 35 #[.int .i64 A, .int .i64 C]) := by rw [hW1]; exact Lib.hid (Has.fresh _ _ _)
        have HTl := Lib.hid (HTell.out _ _ _ _ HT1.out A C hay)
        have HW1 := Lib.hid hW1
        obtain ⟨X, hX⟩ : ∃ X, X = telE D.me E A C := ⟨_, rfl⟩
        rw [← hX] at HTl
        have HXe := Lib.hid hX
        clear hy hay hW1 hX
        go_wp2_with fail
        rw [← HW1.out]
        refine HTl.out.mono ?_
        rintro e w4 ⟨⟨rfl, hs⟩, hO⟩
        have HT4 := Lib.hid hs
        have HO4 := Lib.hid (hO.own HO1.out (by decide) (by decide))
        have HBox4 := Lib.hid (hO _ _ _ HBox.out (by decide) (by decide))
        clear hs hO c0 c1
        by_cases q : X = 0
        · have hs2 : telS D.me E A C = E ++ [(A, C)] := tel_app (HXe.out.symm.trans q)
          have HT5 : Hid (Tg w3 w4 px D (E ++ [(A, C)])) := by have z := HT4.out; rw [hs2] at z; exact Lib.hid z
          have HE5 : Hid (E ++ [(A, C)] = tells D.me (l.take (k + 1)) []) := by rw [HSt.out, ← HE.out, hs2]; exact Lib.hid rfl
          obtain ⟨W5, hW5⟩ : ∃ W5, W5 = w4.alloc (.cells #[.int .i64 A, .int .i64 C] 35) := ⟨_, rfl⟩
          obtain ⟨a', c', w6, hr, ho6, hT6⟩ := Tg.went (w := W5) (x := (A, C)) (y := w4.heap.size) (by rw [hW5]; exact HT5.out.up (boxed _ _)) HL.out.symm (by rw [hW5]; exact own_up HO4.out (boxed _ _)) (by omega) (by rw [hW5]; exact Has.fresh _ _ _)
          have b0 := HBox4.out.cell 0
          have b1 := HBox4.out.cell 1
          simp at b0 b1
          have HRn := Lib.hid hr
          have HO6 := Lib.hid ho6
          have HT6 := Lib.hid hT6
          have HW5 := Lib.hid hW5
          rw [q]
          clear hs2 hr ho6 hT6 hW5 q
          go_wp2_with (first | (rw [← HW5.out]; refine wpList_run (o := ⟨some 68, _, _, _, _, _⟩) rfl (.tmp 65) (.tmp 67) 25 rfl _ _ rfl rfl (S := fun u q => u = .slice a' (L + 1) c' ∧ q = w6) ⟨_, w6, HRn.out, rfl, rfl⟩ ?_; rintro u q ⟨rfl, rfl⟩) | fail)
          have hlen : (E ++ [(A, C)]).length = L + 1 := by rw [List.length_append, ← HL.out]; rfl
          exact ⟨⟨k + 1, by omega, by go_num, E ++ [(A, C)], a', c', HE5.out, by rw [hlen], HT6.out, by rw [hlen]; exact HO6.out⟩, by simp [intOf]; omega⟩
        · have hs2 : telS D.me E A C = E := tel_not (by rw [← HXe.out]; exact q)
          have q' : (X == 0) = false := by simpa using q
          have HT5 : Hid (Tg w3 w4 px D E) := by have z := HT4.out; rw [hs2] at z; exact Lib.hid z
          have HE5 : Hid (E = tells D.me (l.take (k + 1)) []) := by rw [HSt.out, ← HE.out, hs2]; exact Lib.hid rfl
          clear hs2 q
          go_wp2_with fail
          exact ⟨⟨k + 1, by omega, by go_num, E, a, c, HE5.out, by rw [← HL.out], HT5.out, by rw [← HL.out]; exact HO4.out⟩, by simp [intOf]; omega⟩
      · obtain rfl : k = n := by omega
        obtain ⟨wq, rfl⟩ : ∃ wq, wq = wr := ⟨_, rfl⟩
        have hF : FineT D E := by
          have z := HE.out
          rw [HN.out, List.take_length] at z
          rw [z]; exact HF1.out l
        have HFE := Lib.hid hF
        -- the other log, from here on
        have HYq : Hid (Tg wq wq py D []) := by
          obtain ⟨la', lc', tv', hy⟩ := HY.out.beside HT.out (by obtain ⟨cs, z⟩ := HX.out.log; exact ⟨cs, z⟩) HNe.out
          have e := hy.nil0 rfl
          subst e
          exact Lib.hid (Tg.of ⟨la', lc', _, hy.has, hy.lns, World.ownsRow_nil _ _ _ _, hy.fine, hy.nil0⟩)
        have HXq : Hid (∃ la lc tv, TgX wq w3.heap.size px D E la lc tv) := Lib.hid HT.out.x
        have hrow := (own_rws tl_len HO.out HL.out.symm).1
        have HRow := Lib.hid hrow
        have e2 : IntKind.i64.wrap ((L : Int) - 1) = (L : Int) - 1 := IntWalk.i64_in _ (by omega)
        clear hF hrow hlt
        go_wp2_with fail
        go_loopw [14] (fun i wr => ∃ j : Nat, j ≤ L ∧ i = .int .i64 ((j : Int) - 1) ∧ Tg wq wr py D (E.drop j).reverse) (fun i _ => (intOf i + 1).toNat)
        case atStart => exact ⟨L, Nat.le_refl _, rfl, by rw [HL.out, List.drop_length]; exact HYq.out⟩
        case round =>
          obtain ⟨j, hj, rfl, hT⟩ := hrel
          have HTy := Lib.hid hT
          clear hT
          rcases Nat.eq_zero_or_pos j with q | q
          · subst q
            rw [show ((0 : Nat) : Int) - 1 = -1 from rfl]
            have hTr : Tg wq wr py D E.reverse := by have z := HTy.out; rwa [List.drop_zero] at z
            have HTr := Lib.hid hTr
            have HXr : Hid (∃ la lc tv, TgX wr w3.heap.size px D E la lc tv) := by
              obtain ⟨la', lc', tv', hx⟩ := HXq.out
              obtain ⟨cs, hl⟩ := HYq.out.log
              exact Lib.hid ⟨la', lc', tv', hx.beside hTr.kp hl (Ne.symm HNe.out)⟩
            have HThX : Hid (∀ W, Below wr.heap.size wr W → Calls Try.prog 12 #[.pointer (some ⟨px, 0, none⟩), .int .i64 day] W (ThrR W D E day)) := Lib.hid fun W q => by
              obtain ⟨la', lc', tv', hx⟩ := HXr.out
              exact thr_any (hx.up q) day
            have HMx : Hid (∀ W, Below wr.heap.size wr W → Calls Try.prog 14 #[.pointer (some ⟨px, 0, none⟩)] W fun e w' => e = .returned (.int .i64 (L : Int)) ∧ W = w') := Lib.hid fun W q => by
              obtain ⟨la', lc', tv', hx⟩ := HXr.out
              have := tmany_any (hx.up q)
              rwa [← HL.out] at this
            have HThY : Hid (∀ W, Below wr.heap.size wr W → Calls Try.prog 12 #[.pointer (some ⟨py, 0, none⟩), .int .i64 day] W (ThrR W D E day)) := Lib.hid fun W q => by
              have := (HTr.out.up q).thr day
              unfold ThrR at this ⊢
              rwa [thrV_rev] at this
            have HMy : Hid (∀ W, Below wr.heap.size wr W → Calls Try.prog 14 #[.pointer (some ⟨py, 0, none⟩)] W fun e w' => e = .returned (.int .i64 (L : Int)) ∧ W = w') := Lib.hid fun W q => by
              have := (HTr.out.up q).many
              rwa [List.length_reverse, ← HL.out] at this
            have HBf : Hid (Below w.heap.size w wr) := Lib.hid (HBr.out.grown hTr.kp HBr.out.size (fun j hj => by injection hj with hj; have := HPy.out; omega))
            unfold ThrR at HThX HThY
            generalize thrV D E day = v at HThX HThY
            generalize thrW D = v2 at HThX HThY
            clear hTr hj
            go_wp2_with fail
            refine (HThX.out _ (Below.refl _ _)).mono ?_
            rintro e w5 ⟨rfl, hb⟩
            have HB5 := Lib.hid hb
            clear hb
            go_wp2_with fail
            refine (HThY.out _ HB5.out).mono ?_
            rintro e w6 ⟨rfl, hb⟩
            have HB6 := Lib.hid (up2 HB5.out hb)
            clear hb
            go_wp2_with fail
            refine (HMx.out _ HB6.out).mono ?_
            rintro e w7 ⟨rfl, rfl⟩
            go_wp2_with fail
            refine (HMy.out _ HB6.out).mono ?_
            rintro e w7 ⟨rfl, rfl⟩
            go_wp2_with fail
            go_ret
            exact ⟨by simp, up2 HBf.out HB6.out⟩
          · obtain ⟨i, rfl⟩ : ∃ i, j = i + 1 := ⟨j - 1, by omega⟩
            rw [show ((i + 1 : Nat) : Int) - 1 = (i : Int) by omega]
            obtain ⟨y, hy⟩ : ∃ y, E[i]? = some y := ⟨E[i]'(by rw [← HL.out]; omega), List.getElem?_eq_getElem _⟩
            have hor : wr.ownsRow w3.heap.size 35 2 (.slice a L c) L (E.flatMap tlC) := by
              obtain ⟨cs, hl⟩ := HYq.out.log
              exact own_beside HO.out hl (by decide) HTy.out.kp
            obtain ⟨b, o, ha, c0, c1⟩ := tl_at (own_rws tl_len hor HL.out.symm).1 hy
            subst ha
            have HHas := Lib.hid (own_has hor)
            have iL : (i : Int) < (L : Int) := by omega
            have hokk := HFE.out.ok y (List.mem_of_getElem? hy)
            have hay : Am y.2 := by
              have hs := HFE.out.sum
              have hle : y.2 ≤ sumT E := by
                have hsp : E = E.take i ++ y :: E.drop (i + 1) := by
                  have hi := (List.getElem?_eq_some_iff.1 hy)
                  rw [← hi.2, ← List.drop_eq_getElem_cons hi.1, List.take_append_drop]
                have h1 := HFE.out.ok
                rw [hsp] at h1
                rw [hsp, sumT_app]
                have h2 := sumT_nn (E := E.take i) fun z hz => h1 z (List.mem_append_left _ hz)
                have h3 := sumT_nn (E := E.drop (i + 1)) fun z hz => h1 z (List.mem_append_right _ (List.mem_cons_of_mem _ hz))
                simp only [sumT]; omega
              unfold Am; omega
            have hz : telE D.me (E.drop (i + 1)).reverse y.1 y.2 = 0 := by
              have hi := (List.getElem?_eq_some_iff.1 hy)
              have hsp : E = E.take i ++ y :: E.drop (i + 1) := by
                rw [← hi.2, ← List.drop_eq_getElem_cons hi.1, List.take_append_drop]
              have h1 := HFE.out
              rw [hsp] at h1
              exact h1.turn
            have hnx : (E.drop (i + 1)).reverse ++ [y] = (E.drop i).reverse := by
              have hi := (List.getElem?_eq_some_iff.1 hy)
              rw [List.drop_eq_getElem_cons hi.1, List.reverse_cons, hi.2]
            have e3 : IntKind.i64.wrap ((i : Int) - 1) = (i : Int) - 1 := IntWalk.i64_in _ (by omega)
            have i0 : (0 : Int) ≤ (i : Int) := by omega
            obtain ⟨A, C⟩ := y
            simp only at c0 c1 hay hz
            have HTl := Lib.hid (fun (W : World) (q : Below wr.heap.size wr W) => HTell.out _ _ _ _ (HTy.out.up q) A C hay)
            rw [hz, tel_app hz, hnx] at HTl
            clear hy hor hokk hay hz hnx
            go_wp2_with fail
            have HTd := Lib.hid (HTl.out wr.drew (Below.refl _ _).drew)
            have K0 : Hid (wr.drew.cell? ⟨b, o + i * 2, none⟩ = some (.int .i64 A) ∧ wr.drew.cell? ⟨b, o + i * 2 + 1, none⟩ = some (.int .i64 C)) := ⟨c0, c1⟩
            obtain ⟨cs0, hcs0⟩ := HHas.out
            have HCs : Hid (Has wr.drew b 35 cs0) := hcs0
            clear hcs0
            go_region_held3 (fun w' => w'.cell? ⟨b, o + i * 2, none⟩ = some (.int .i64 A) ∧ w'.cell? ⟨b, o + i * 2 + 1, none⟩ = some (.int .i64 C))
              (first | (go_keep; done) | (with_reducible exact K0.out) | (with_reducible exact kK1.out))
              (first | (go_at_call 10; (with_reducible refine (HTd.out).mono ?_); rintro e w5 ⟨⟨rfl, hs5⟩, hO5⟩; have kK1 : Hid (w5.cell? ⟨b, o + i * 2, none⟩ = some (.int .i64 A) ∧ w5.cell? ⟨b, o + i * 2 + 1, none⟩ = some (.int .i64 C)) := ⟨hO5.cell HCs.out (by decide) (by decide) K0.out.1, hO5.cell HCs.out (by decide) (by decide) K0.out.2⟩; have kS5 := Lib.hid hs5; clear hs5 hO5))
            all_goals
              clear c0 c1
              go_wp2_with fail
              exact ⟨⟨i, by omega, rfl, kS5.out⟩, by simp [intOf]⟩
end Go.Proofs.Ytlplbgandehkcaa
