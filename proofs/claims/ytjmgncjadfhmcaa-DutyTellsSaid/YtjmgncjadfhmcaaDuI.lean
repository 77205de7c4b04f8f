/- Find, on. -/
import Derived.Test.YtjmgncjadfhmcaaDuH
namespace Go.Proofs.Ytjmgncjadfhmcaa
open Go.RowKit

set_option maxHeartbeats 1000000 in
theorem find_nil (v : Value) (d : Int) (w : World) : Calls Try.prog 11 #[.pointer none, v, .int .i64 d] w fun e w' => e = .returned (.tuple #[.slice none 0 0, .int .i64 1]) ∧ Below w.heap.size w w' := by
  go_enter Try.func11, Try.ntmps11
  go_wp2_with fail
  go_ret2
  exact ⟨rfl, Below.refl _ _⟩
section
variable {w : World} {p r : Nat} {S : Bs}
set_option maxRecDepth 100000 in
set_option maxHeartbeats 1000000 in
theorem find_neg (a : Option Addr) (n cap : Nat) (l : List Ln) (d : Int) (hd : d < 0) : Calls Try.prog 11 #[.pointer (some ⟨p, 0, none⟩), .slice a n cap, .int .i64 d] w (FindR w S l d) := by
  have hE : findE S l d = 1 := by unfold findE; rw [if_pos hd]
  have HE := Lib.hid hE
  clear hE
  go_enter Try.func11, Try.ntmps11
  go_wp2_with fail
  go_ret2
  exact find_no HE.out (by decide) (Below.refl _ _)
set_option maxRecDepth 100000 in
set_option maxHeartbeats 1000000 in
theorem find_bad (a : Option Addr) (cap : Nat) (l : List Ln) (d : Int) (hd : 0 ≤ d) (h : Bk w p r S) (hl : LnA w a l) (hc : chkE S l ≠ 0) : Calls Try.prog 11 #[.pointer (some ⟨p, 0, none⟩), .slice a l.length cap, .int .i64 d] w (FindR w S l d) := by
  have hE : findE S l d = chkE S l := by unfold findE; rw [if_neg (by omega), if_pos hc]
  have HC := Lib.hid (check_any a cap l h hl)
  have HE := Lib.hid hE
  obtain ⟨c, hcc⟩ : ∃ c, c = chkE S l := ⟨_, rfl⟩
  rw [← hcc] at hc HC HE
  have HC0 := Lib.hid hc
  obtain ⟨n, hn⟩ : ∃ n, n = l.length := ⟨_, rfl⟩
  rw [← hn] at HC ⊢
  clear hE h hl hcc hn hc
  go_enter Try.func11, Try.ntmps11
  go_wp2_with fail
  refine HC.out.mono ?_
  rintro e w1 ⟨rfl, hb⟩
  have HB := Lib.hid hb
  have hne : (c != 0) = true := by simpa using HC0.out
  clear hb
  go_wp2_with fail
  go_ret2
  exact find_no HE.out HC0.out HB.out
set_option maxRecDepth 100000 in
set_option maxHeartbeats 2000000 in
theorem find_good (a : Option Addr) (cap : Nat) (l : List Ln) (d : Int) (hd : 0 ≤ d) (h : Bk w p r S) (hl : LnA w a l) (hc : chkE S l = 0) (hAm : ∀ x ∈ l, Am x.un) : Calls Try.prog 11 #[.pointer (some ⟨p, 0, none⟩), .slice a l.length cap, .int .i64 d] w (FindR w S l d) := by
  have HC := Lib.hid (check_any a cap l h hl)
  rw [hc] at HC
  obtain ⟨h12, hall⟩ := chk_zero hc
  have hF : FineB S := by obtain ⟨_, _, _, hb⟩ := h; exact hb.fine
  have HNn := Lib.hid (fun k (hk : k < l.length) => lines_nn hF hall d hk)
  have HTg := Lib.hid (fun (W : World) (hb : Below w.heap.size w W) => together_any a l.length cap l rfl (by omega) (h.up hb) (hl.up hb) hall)
  have HOw := Lib.hid (fun (W : World) (hb : Below w.heap.size w W) (x : NsX) (i : Nat) => owed_any (w := W) a l.length cap l rfl (h.up hb) (hl.up hb) (fun z hz => ⟨(lnB_has (hall z hz)).1, hAm z hz⟩) x i)
  have HCz := Lib.hid hc
  obtain ⟨n, hn⟩ : ∃ n, n = l.length := ⟨_, rfl⟩
  have HN := Lib.hid hn
  rw [← hn] at HC HTg HOw h12 ⊢
  clear h hl hc hAm hall hF hn
  go_enter Try.func11, Try.ntmps11
  go_wp2_with fail
  refine HC.out.mono ?_
  rintro e w1 ⟨rfl, hb⟩
  have HB1 := Lib.hid hb
  clear hb HC
  go_wp2_with fail
  refine (HTg.out _ HB1.out).mono ?_
  rintro e w2 ⟨a2, c2, X, rfl, hX, hR, hb⟩
  have HX := Lib.hid hX
  have HR := Lib.hid hR
  have HB2 := Lib.hid (up2 HB1.out hb)
  obtain ⟨m, hm⟩ : ∃ m, m = X.length := ⟨_, rfl⟩
  have hm12 : m ≤ 12 := by
    have h1 := congrArg List.length hX
    rw [List.length_map, groups_len] at h1
    have := keysTo_le (dKey S l) n
    omega
  rw [← hm]
  have HM := Lib.hid hm
  clear hb hX hR HTg HB1 hm
  go_wp2_with fail
  go_loopw [9, 30] (fun v9 v30 wr => ∃ t : Nat, t ≤ m ∧ v30 = .int .i64 (t : Int) ∧ FiS w2 wr S l d X t v9) (fun _ v30 _ => m - (intOf v30).toNat)
  case atStart => exact ⟨0, Nat.zero_le _, rfl, FiS.start _ _ _ _ _⟩
  case round =>
    obtain ⟨t, ht, rfl, hS⟩ := hrel
    have HS := Lib.hid hS
    have HBr := Lib.hid (up2 HB2.out hS.bel)
    clear hS
    by_cases htm : t < m
    · obtain ⟨x, hx⟩ : ∃ x, X[t]? = some x := ⟨X[t]'(by rw [← HM.out]; exact htm), List.getElem?_eq_getElem _⟩
      obtain ⟨i, hi, hxl, hx0, hxn, hxm, hxh⟩ := row_is HX.out hx
      obtain ⟨b, o, ha, c0⟩ := rows_at (HR.out.up HS.out.bel) hx
      subst ha
      have hns := (HR.out.up HS.out.bel).2 x (List.mem_of_getElem? hx)
      have hOw := HOw.out wr HBr.out x i hns hx0 hxn (by omega) d
      have hov := owE_over (S := S) (l := l) hd x.l (fun k hk => HNn.out k (by rw [← HN.out]; exact hxn k hk))
      have e1 : IntKind.i64.wrap ((t : Int) + 1) = (t : Int) + 1 := IntWalk.i64_in _ (by omega)
      unfold OweR at hOw
      obtain ⟨E, hE⟩ : ∃ E, E = owE S l d x.l 0 0 := ⟨_, rfl⟩
      rw [← hE] at hOw hov
      have HE := Lib.hid hE
      have HI := Lib.hid hi
      have HXl := Lib.hid hxl
      have HX0 := Lib.hid hxh
      have HOv := Lib.hid hov
      have HXx := Lib.hid hx
      unfold NsX.val at c0 hOw
      clear hE hi hxl hxh hov hx hns hx0 hxn hxm
      by_cases q : E = 0
      · rw [if_pos q, q] at hOw
        have hdx : (⟨x.a, x.cap, duOf S l d i x.l⟩ : DuX) = dxOf S l d x := by unfold dxOf; rw [HX0.out]
        rw [hdx] at hOw
        obtain ⟨y, hy⟩ : ∃ y, y = dxOf S l d x := ⟨_, rfl⟩
        rw [← hy] at hOw
        have HY := Lib.hid hy
        unfold DuX.val at hOw
        have HO := Lib.hid hOw
        clear hOw hdx hy
        go_wp2_with fail
        refine HO.out.mono ?_
        rintro e w3 ⟨rfl, hb3⟩
        have HS3 := Lib.hid (HS.out.up (up2 hb3 (boxed w3 (.cells #[.slice y.a y.d.ls.length y.cap, .int .i64 y.d.al, .int .i64 y.d.un, .int .i64 y.d.me, .int .i64 y.d.fi, .int .i64 y.d.la] 43))))
        obtain ⟨v5, w5, hr5, hS5⟩ := (HS3.out.up (boxed _ (.cells #[.slice y.a y.d.ls.length y.cap, .int .i64 y.d.al, .int .i64 y.d.un, .int .i64 y.d.me, .int .i64 y.d.fi, .int .i64 y.d.la] 43))).more HXx.out (by omega) (HE.out.symm.trans q) (y := w3.heap.size + 1) (by
          rw [← HY.out]
          have := Has.fresh (w3.alloc (.cells #[.slice y.a y.d.ls.length y.cap, .int .i64 y.d.al, .int .i64 y.d.un, .int .i64 y.d.me, .int .i64 y.d.fi, .int .i64 y.d.la] 43)) 43 #[.slice y.a y.d.ls.length y.cap, .int .i64 y.d.al, .int .i64 y.d.un, .int .i64 y.d.me, .int .i64 y.d.fi, .int .i64 y.d.la]
          rw [show (w3.alloc (.cells #[.slice y.a y.d.ls.length y.cap, .int .i64 y.d.al, .int .i64 y.d.un, .int .i64 y.d.me, .int .i64 y.d.fi, .int .i64 y.d.la] 43)).heap.size = w3.heap.size + 1 by simp] at this
          exact this)
        have H5 := Lib.hid hr5
        have HS5 := Lib.hid hS5
        clear hb3 hr5 hS5 c0
        go_wp2_with (first | (at_builtin; refine wpList_run (o := ⟨some 48, _, _, _, _, _⟩) rfl (.tmp 45) (.tmp 47) 34 rfl _ _ rfl rfl (S := fun u q => v5 = u ∧ w5 = q) ⟨v5, w5, H5.out, rfl, rfl⟩ ?_; rintro u5 q5 ⟨rfl, rfl⟩) | fail)
        exact ⟨⟨t + 1, by omega, by go_num, HS5.out⟩, by simp [intOf]; omega⟩
      · rw [if_neg q] at hOw
        unfold zeroD at hOw
        have HO := Lib.hid hOw
        have hov : dOver S l d x.l = true := by
          cases z : dOver S l d x.l with
          | true => rfl
          | false => have := HOv.out; rw [z, if_neg (by simp)] at this; exact absurd this q
        have hE3 : E = 3 := by have := HOv.out; rw [hov, if_pos rfl] at this; exact this
        have hF3 : findE S l d = 3 := find_three hd HCz.out (i := i) (by rw [← HN.out]; exact HI.out) (by rw [← HN.out, ← HXl.out]; exact hov)
        have HF3 := Lib.hid hF3
        rw [hE3] at HO
        clear hOw hov hF3 hE3
        go_wp2_with fail
        refine HO.out.mono ?_
        rintro e w3 ⟨rfl, hb3⟩
        have HB3 := Lib.hid (up2 HBr.out hb3)
        clear hb3 c0
        go_wp2_with fail
        go_ret2
        exact find_no HF3.out (by decide) (HB3.out.alloc HB3.out.size _)
    · obtain rfl : t = m := by omega
      obtain ⟨av, cv, hv, _⟩ := HS.out.own.form (i := 0) rfl
      have hv : u9 = .slice av t cv := hv
      subst hv
      go_wp2_with fail
      go_ret2
      have hall : ∀ x ∈ X, dOver S l d x.l = false := fun x hx => by
        obtain ⟨j, hj⟩ := List.getElem?_of_mem hx
        obtain ⟨i, hi, hxl, hx0, hxn, hxm, hxh⟩ := row_is HX.out hj
        have h1 := HS.out.fine x (by rw [HM.out, List.take_length]; exact hx)
        rw [owE_over hd x.l (fun k hk => HNn.out k (by rw [← HN.out]; exact hxn k hk))] at h1
        cases z : dOver S l d x.l with
        | false => rfl
        | true => rw [z, if_pos rfl] at h1; cases h1
      have hz := find_zero hd HCz.out (X := X) (by rw [← HN.out]; exact HX.out) hall
      have hown := HS.out.own
      rw [HM.out, List.take_length] at hown
      refine ⟨av, cv, X.map (dxOf S l d), by rw [hz, List.length_map, ← HM.out]; rfl, ?_, ⟨(OwL.rws du_len hown (i := 0) rfl (by rw [List.length_map])).1, fun y hy => ?_⟩, HBr.out⟩
      · unfold findV
        rw [if_pos hz]
        exact dus_of (by rw [← HN.out]; exact HX.out)
      · obtain ⟨x, hx, rfl⟩ := List.mem_map.1 hy
        exact (HR.out.up HS.out.bel).2 x hx
theorem find_any (a : Option Addr) (cap : Nat) (l : List Ln) (d : Int) (h : Bk w p r S) (hl : LnA w a l) (hAm : ∀ x ∈ l, Am x.un) : Calls Try.prog 11 #[.pointer (some ⟨p, 0, none⟩), .slice a l.length cap, .int .i64 d] w (FindR w S l d) := by
  by_cases hd : d < 0
  · exact find_neg a _ cap l d hd
  · by_cases hc : chkE S l = 0
    · exact find_good a cap l d (by omega) h hl hc hAm
    · exact find_bad a cap l d (by omega) h hl hc
end
end Go.Proofs.Ytjmgncjadfhmcaa
