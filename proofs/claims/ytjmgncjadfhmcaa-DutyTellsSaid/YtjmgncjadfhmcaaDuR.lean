/- DutyTells. -/
import Derived.Test.YtjmgncjadfhmcaaDvG
import Derived.Test.YtjmgncjadfhmcaaDuP
namespace Go.Proofs.Ytjmgncjadfhmcaa
open Go.RowKit

theorem qnew_yes (a : Option Addr) (n cap : Nat) (I : List Im) (w : World) (hn : I.length = n) (hI : ItA w a I) (ha : a = none → cap = 0) (hE : bnewE I = 0) :
    Calls Try.prog 8 #[.slice a n cap] w fun e w' => ∃ p, e = .returned (.tuple #[.pointer (some ⟨p, 0, none⟩), .int .i64 0]) ∧ Rb w' p ⟨I, []⟩ ∧ Below w.heap.size w w' := by
  refine (qnew_any a n cap I w hn hI ha).mono ?_
  rintro e w' (⟨h, _⟩ | ⟨_, p, h1, h2, h3, _⟩)
  · exact absurd hE h
  · exact ⟨p, h1, h2, h3⟩
theorem qnew_no (a : Option Addr) (n cap : Nat) (I : List Im) (w : World) (hn : I.length = n) (hI : ItA w a I) (ha : a = none → cap = 0) (hE : bnewE I ≠ 0) :
    Calls Try.prog 8 #[.slice a n cap] w fun e w' => e = .returned (.tuple #[.pointer none, .int .i64 (bnewE I)]) ∧ Below w.heap.size w w' := by
  refine (qnew_any a n cap I w hn hI ha).mono ?_
  rintro e w' (⟨_, h1, h2⟩ | ⟨h, _⟩)
  · exact ⟨h1, h2⟩
  · exact absurd h hE
theorem find_lens {S : Bs} {l : List Ln} {d : Int} : (findV S l d).length ≤ 12 ∧ ∀ x ∈ findV S l d, x.ls.length ≤ 12 := by
  by_cases h : findE S l d = 0
  · have hT := tol_of h
    rw [findV_tol h]
    unfold duties
    refine ⟨by rw [List.length_map]; exact Nat.le_trans (fsts_le _ _) hT.few, fun x hx => ?_⟩
    obtain ⟨i, _, rfl⟩ := List.mem_map.1 hx
    exact Nat.le_trans (mems_le _ _ _) hT.few
  · rw [findV_no h]
    exact ⟨by simp, fun x hx => by cases hx⟩
set_option maxRecDepth 100000 in
set_option maxHeartbeats 4000000 in
theorem tells_law (w : World) (a0 : Option Addr) (cap0 : Nat) (I : List Im) (hI : ItA w a0 I) (ha : a0 = none → cap0 = 0) (hp : ∀ x ∈ I, Am x.pri)
    (a1 : Option Addr) (cap1 : Nat) (l : List Ln) (hL : LnA w a1 l) (hAm : ∀ x ∈ l, Am x.un) (hCh : ∀ x ∈ l, Am x.ch) (d : Int) :
    Calls Try.prog 3 #[.slice a0 I.length cap0, .slice a1 l.length cap1, .int .i64 d] w fun e w' => e = .returned (.bool true) ∧ Below w.heap.size w w' := by
  have HAw := Lib.hid (awake_any11 w)
  have HBad := Lib.hid (fun (W : World) (q : Below w.heap.size w W) (h0 : bnewE I ≠ 0) => bnew_no a0 I.length cap0 I W rfl (hI.up q) ha hp rfl h0)
  have HNew := Lib.hid (fun (W : World) (q : Below w.heap.size w W) (h0 : bnewE I = 0) => bnew_yes a0 I.length cap0 I W rfl (hI.up q) ha hp h0)
  have HQBad := Lib.hid (fun (W : World) (q : Below w.heap.size w W) (h0 : bnewE I ≠ 0) => qnew_no a0 I.length cap0 I W rfl (hI.up q) ha h0)
  have HQNew := Lib.hid (fun (W : World) (q : Below w.heap.size w W) (h0 : bnewE I = 0) => qnew_yes a0 I.length cap0 I W rfl (hI.up q) ha h0)
  have HFind := Lib.hid (fun (W : World) (q : Below w.heap.size w W) (p r : Nat) (S : Bs) (h : Bk W p r S) => find_any a1 cap1 l d h (hL.up q) hAm)
  have HQFind := Lib.hid (fun (W : World) (q : Below w.heap.size w W) (p : Nat) (S : Bs) (h : Rb W p S) (F : FineB S) (hs : S.L.length ≤ 1000) => qfind_any a1 cap1 l d h F hs (hL.up q) hAm)
  have HCh := Lib.hid (fun (W : World) (q : Below w.heap.size w W) (hn : l.length ≤ 1000) => charge_any a1 cap1 l W (hL.up q) hn hCh)
  have HQCh := Lib.hid (fun (W : World) (q : Below w.heap.size w W) (hn : l.length ≤ 1000) => qcharge_any a1 cap1 l W (hL.up q) hn hCh)
  unfold ChR at HCh HQCh
  obtain ⟨V, hV⟩ : ∃ V, V = tellV (sumTo (chF l) l.length) := ⟨_, rfl⟩
  obtain ⟨E, hE⟩ : ∃ E, E = tellE (sumTo (chF l) l.length) := ⟨_, rfl⟩
  rw [← hV, ← hE] at HCh HQCh
  obtain ⟨N, hN⟩ : ∃ N, N = I.length := ⟨_, rfl⟩
  obtain ⟨n, hn⟩ : ∃ n, n = l.length := ⟨_, rfl⟩
  have HN := Lib.hid hn
  rw [← hN] at HBad HNew HQBad HQNew
  rw [← hn] at HFind HQFind HCh HQCh
  rw [← hN, ← hn]
  clear hI hp hL hAm hCh hN hn ha hV hE
  by_cases g1 : 50 < N
  · have g1' : (50 : Int) < (N : Int) := by omega
    go_enter Try.func3, Try.ntmps3
    go_wp2_with fail
    refine HAw.out.mono ?_
    rintro e w1 ⟨rfl, hb⟩
    have HB := Lib.hid hb
    clear hb
    go_wp2_with fail
    go_ret
    exact ⟨rfl, HB.out⟩
  · have g1' : ¬ (50 : Int) < (N : Int) := by omega
    by_cases g2 : 30 < n
    · have g2' : (30 : Int) < (n : Int) := by omega
      go_enter Try.func3, Try.ntmps3
      go_wp2_with fail
      refine HAw.out.mono ?_
      rintro e w1 ⟨rfl, hb⟩
      have HB := Lib.hid hb
      clear hb
      go_wp2_with fail
      go_ret
      exact ⟨rfl, HB.out⟩
    · have g2' : ¬ (30 : Int) < (n : Int) := by omega
      have hn30 : n ≤ 1000 := by omega
      by_cases hE : bnewE I = 0
      · have HNw := Lib.hid (fun (W : World) (q : Below w.heap.size w W) => HNew.out W q hE)
        have HQNw := Lib.hid (fun (W : World) (q : Below w.heap.size w W) => HQNew.out W q hE)
        clear HBad HNew hE HQBad HQNew
        go_enter Try.func3, Try.ntmps3
        go_wp2_with fail
        refine HAw.out.mono ?_
        rintro e w1 ⟨rfl, hb⟩
        have HB1 := Lib.hid hb
        clear hb
        go_wp2_with fail
        refine (HNw.out _ HB1.out).mono ?_
        rintro e w2 ⟨p, r, rfl, hs⟩
        have HB2 := Lib.hid (up2 HB1.out hs.bel)
        have HS2 := Lib.hid hs.bk
        clear hs HNw HB1
        go_wp2_with fail
        refine (HQNw.out _ HB2.out).mono ?_
        rintro e w3 ⟨p3, rfl, hr, hb⟩
        have HB3 := Lib.hid (up2 HB2.out hb)
        have HS3 := Lib.hid (HS2.out.up hb)
        have HR3 := Lib.hid hr
        clear hb hr HQNw HB2 HS2
        go_wp2_with fail
        refine (HCh.out _ HB3.out hn30).mono ?_
        rintro e w4 ⟨rfl, hb⟩
        have HB4 := Lib.hid (up2 HB3.out hb)
        have HS4 := Lib.hid (HS3.out.up hb)
        have HR4 := Lib.hid (HR3.out.up hb)
        clear hb HS3 HR3 HB3
        go_wp2_with fail
        refine (HQCh.out _ HB4.out hn30).mono ?_
        rintro e w5 ⟨rfl, hb⟩
        have HB5 := Lib.hid (up2 HB4.out hb)
        have HS5 := Lib.hid (HS4.out.up hb)
        have HR5 := Lib.hid (HR4.out.up hb)
        clear hb HS4 HR4 HB4
        go_wp2_with fail
        have hF5 : FineB (⟨I, []⟩ : Bs) := by
          obtain ⟨_, _, _, hb⟩ := HS5.out
          exact hb.fine
        have HF5 := Lib.hid hF5
        obtain ⟨S, hS⟩ : ∃ S, S = (⟨I, []⟩ : Bs) := ⟨_, rfl⟩
        have HSl : Hid (S.L.length ≤ 1000) := by rw [hS]; exact Nat.zero_le _
        rw [← hS] at HS5 HR5 HF5
        clear hS hF5
        refine (HFind.out _ HB5.out p r S HS5.out).mono ?_
        rintro e w6 ⟨aD, cD, X, rfl, hX, hD, hb⟩
        have HB6 := Lib.hid (up2 HB5.out hb)
        have HR6 := Lib.hid (HR5.out.up hb)
        have HX := Lib.hid hX
        have HD := Lib.hid hD
        obtain ⟨F, hFe⟩ : ∃ F, F = findE S l d := ⟨_, rfl⟩
        obtain ⟨m, hm⟩ : ∃ m, m = X.length := ⟨_, rfl⟩
        rw [← hFe, ← hm]
        have HFe := Lib.hid hFe
        have HM := Lib.hid hm
        clear hb hX hD HS5 HR5 HB5 HFind hFe hm
        go_wp2_with fail
        refine (HQFind.out _ HB6.out p3 S HR6.out HF5.out HSl.out).mono ?_
        rintro e w7 ⟨aE, cE, Y, rfl, hY, hDy, hb⟩
        have HB7 := Lib.hid (up2 HB6.out hb)
        have HD7 := Lib.hid (HD.out.up hb)
        have HDy := Lib.hid hDy
        rw [← HFe.out]
        have hsame := same_any11 aD aE cD cE X Y w7 HD7.out HDy.out (by
          have := congrArg List.length HX.out
          rw [List.length_map] at this
          have h2 := (find_lens (S := S) (l := l) (d := d)).1
          omega) (fun x hx => by
          have hm : x.d ∈ findV S l d := by rw [← HX.out]; exact List.mem_map.2 ⟨x, hx, rfl⟩
          have := (find_lens (S := S) (l := l) (d := d)).2 _ hm
          omega)
        rw [HX.out, hY, same_refl, ← HM.out] at hsame
        have HSame := Lib.hid hsame
        obtain ⟨mY, hmY⟩ : ∃ mY, mY = Y.length := ⟨_, rfl⟩
        rw [← hmY] at HSame
        rw [← hmY]
        clear hb hDy hY hsame HQFind HR6 HB6 hmY
        go_wp2_with fail
        refine HSame.out.mono ?_
        rintro e w8 ⟨rfl, hb⟩
        have HB8 := Lib.hid (up2 HB7.out hb)
        clear hb
        go_wp2_with fail
        go_ret
        exact ⟨rfl, HB8.out⟩
      · have HBd := Lib.hid (fun (W : World) (q : Below w.heap.size w W) => HBad.out W q hE)
        have HQBd := Lib.hid (fun (W : World) (q : Below w.heap.size w W) => HQBad.out W q hE)
        clear HBad HNew hE HQBad HQNew
        go_enter Try.func3, Try.ntmps3
        go_wp2_with fail
        refine HAw.out.mono ?_
        rintro e w1 ⟨rfl, hb⟩
        have HB1 := Lib.hid hb
        clear hb
        go_wp2_with fail
        refine (HBd.out _ HB1.out).mono ?_
        rintro e w2 ⟨rfl, hb⟩
        have HB2 := Lib.hid (up2 HB1.out hb)
        clear hb
        go_wp2_with fail
        refine (HQBd.out _ HB2.out).mono ?_
        rintro e w3 ⟨rfl, hb⟩
        have HB3 := Lib.hid (up2 HB2.out hb)
        clear hb
        go_wp2_with fail
        refine (HCh.out _ HB3.out hn30).mono ?_
        rintro e w4 ⟨rfl, hb⟩
        have HB4 := Lib.hid (up2 HB3.out hb)
        clear hb
        go_wp2_with fail
        refine (HQCh.out _ HB4.out hn30).mono ?_
        rintro e w5 ⟨rfl, hb⟩
        have HB5 := Lib.hid (up2 HB4.out hb)
        clear hb
        go_wp2_with fail
        go_ret
        exact ⟨rfl, HB5.out⟩
end Go.Proofs.Ytjmgncjadfhmcaa
