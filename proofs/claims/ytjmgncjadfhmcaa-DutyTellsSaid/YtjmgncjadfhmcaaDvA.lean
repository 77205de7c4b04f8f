/- The reference's One. -/
import Derived.Test.YtjmgncjadfhmcaaDuA
import Derived.Test.YtjmgncjadfhmcaaBoE
namespace Go.Proofs.Ytjmgncjadfhmcaa
open Go.RowKit

/-- are two obligations the same, but for places, where these don't count? -/
def oneP (pl : Bool) (a b : Du) : Bool := decide (a.al = b.al) && decide (a.un = b.un) && decide (a.me = b.me) && decide (a.fi = b.fi) && decide (a.la = b.la) && decide (a.ls.length = b.ls.length) && (!pl || decide (a.ls = b.ls))
theorem ns_diff {l l' : List Nat} (hl : l.length = l'.length) {i j k : Nat} (h : l[i]? = some j) (h' : l'[i]? = some k) (hne : j ≠ k) : l ≠ l' := by
  rintro rfl
  rw [h] at h'
  exact hne (Option.some.inj h')
theorem ns_same {l l' : List Nat} (hl : l.length = l'.length) (h : ∀ i j k, i < l.length → l[i]? = some j → l'[i]? = some k → j = k) : l = l' := by
  apply List.ext_getElem?
  intro i
  by_cases q : i < l.length
  · have h1 : l[i]? = some l[i] := List.getElem?_eq_getElem q
    have h2 : l'[i]? = some (l'[i]'(by omega)) := List.getElem?_eq_getElem _
    rw [h1, h2, h i _ _ q h1 h2]
  · rw [List.getElem?_eq_none (by omega), List.getElem?_eq_none (by omega)]
set_option maxRecDepth 100000 in
set_option maxHeartbeats 4000000 in
theorem one_any (x y : DuX) (pl : Bool) (w : World) (hx : NsA w x.a x.d.ls) (hy : NsA w y.a y.d.ls) (hn : x.d.ls.length ≤ 1000) :
    Calls Try.prog 16 #[x.val, y.val, .bool pl] w fun e w' => e = .returned (.bool (oneP pl x.d y.d)) ∧ Below w.heap.size w w' := by
  obtain ⟨xa, xc, ⟨xls, xal, xun, xme, xfi, xla⟩⟩ := x
  obtain ⟨ya, yc, ⟨yls, yal, yun, yme, yfi, yla⟩⟩ := y
  simp only [DuX.val] at hx hy hn ⊢
  obtain ⟨n, hxn⟩ : ∃ n, n = xls.length := ⟨_, rfl⟩
  obtain ⟨m, hym⟩ : ∃ m, m = yls.length := ⟨_, rfl⟩
  rw [← hxn] at hn ⊢
  rw [← hym]
  obtain ⟨R, hR⟩ : ∃ R, R = oneP pl ⟨xls, xal, xun, xme, xfi, xla⟩ ⟨yls, yal, yun, yme, yfi, yla⟩ := ⟨_, rfl⟩
  rw [← hR]
  have HX := Lib.hid hx
  have HY := Lib.hid hy
  have HXn := Lib.hid hxn
  have HYm := Lib.hid hym
  by_cases q1 : xal = yal
  rotate_left
  · clear hx hy hxn hym
    have hne : (xal != yal) = true := by simpa using q1
    have hF : R = false := by rw [hR]; unfold oneP; simp [q1]
    clear hR
    subst hF
    go_enter Try.func16, Try.ntmps16
    go_wp2_with fail
    go_ret
    exact ⟨rfl, up2 (boxed _ _) (boxed _ _)⟩
  subst q1
  by_cases q2 : xun = yun
  rotate_left
  · clear hx hy hxn hym
    have hne : (xun != yun) = true := by simpa using q2
    have hF : R = false := by rw [hR]; unfold oneP; simp [q2]
    clear hR
    subst hF
    go_enter Try.func16, Try.ntmps16
    go_wp2_with fail
    go_ret
    exact ⟨rfl, up2 (boxed _ _) (boxed _ _)⟩
  subst q2
  by_cases q3 : xme = yme
  rotate_left
  · clear hx hy hxn hym
    have hne : (xme != yme) = true := by simpa using q3
    have hF : R = false := by rw [hR]; unfold oneP; simp [q3]
    clear hR
    subst hF
    go_enter Try.func16, Try.ntmps16
    go_wp2_with fail
    go_ret
    exact ⟨rfl, up2 (boxed _ _) (boxed _ _)⟩
  subst q3
  by_cases q4 : xfi = yfi
  rotate_left
  · clear hx hy hxn hym
    have hne : (xfi != yfi) = true := by simpa using q4
    have hF : R = false := by rw [hR]; unfold oneP; simp [q4]
    clear hR
    subst hF
    go_enter Try.func16, Try.ntmps16
    go_wp2_with fail
    go_ret
    exact ⟨rfl, up2 (boxed _ _) (boxed _ _)⟩
  subst q4
  by_cases q5 : xla = yla
  rotate_left
  · clear hx hy hxn hym
    have hne : (xla != yla) = true := by simpa using q5
    have hF : R = false := by rw [hR]; unfold oneP; simp [q5]
    clear hR
    subst hF
    go_enter Try.func16, Try.ntmps16
    go_wp2_with fail
    go_ret
    exact ⟨rfl, up2 (boxed _ _) (boxed _ _)⟩
  subst q5
  by_cases q6 : n = m
  rotate_left
  · have q7 : ¬ xls.length = yls.length := by rw [← hxn, ← hym]; exact q6
    clear hx hy hxn hym
    have hne : ((n : Int) != (m : Int)) = true := by simp; omega
    have hF : R = false := by rw [hR]; unfold oneP; simp [q7]
    clear hR
    subst hF
    go_enter Try.func16, Try.ntmps16
    go_wp2_with fail
    go_ret
    exact ⟨rfl, up2 (boxed _ _) (boxed _ _)⟩
  subst q6
  have hRR : R = (!pl || decide (xls = yls)) := by
    rw [hR]; unfold oneP
    simp [hxn.symm.trans hym]
  have HR := Lib.hid hRR
  clear hx hy hxn hym hR hRR
  go_enter Try.func16, Try.ntmps16
  go_wp2_with fail
  obtain ⟨W0, hW0⟩ : ∃ W0, W0 = (w.alloc (.cells #[.slice xa n xc, .int .i64 xal, .int .i64 xun, .int .i64 xme, .int .i64 xfi, .int .i64 xla] 43)).alloc (.cells #[.slice ya n yc, .int .i64 xal, .int .i64 xun, .int .i64 xme, .int .i64 xfi, .int .i64 xla] 43) := ⟨_, rfl⟩
  have HB0 : Hid (Below w.heap.size w W0) := by rw [hW0]; exact up2 (boxed _ _) (boxed _ _)
  have hs : (w.alloc (.cells #[.slice xa n xc, .int .i64 xal, .int .i64 xun, .int .i64 xme, .int .i64 xfi, .int .i64 xla] 43)).heap.size = w.heap.size + 1 := by simp
  have HA0 : Hid (W0.cell? ⟨w.heap.size, 0, none⟩ = some (.slice xa n xc)) := Lib.hid (by rw [hW0]; simp [go_sem])
  have HC0 : Hid (W0.cell? ⟨w.heap.size + 1, 0, none⟩ = some (.slice ya n yc)) := Lib.hid (by rw [hW0]; simp [go_sem])
  rw [← hW0]
  clear hW0 hs
  go_loopw [7] (fun v7 wr => ∃ i : Nat, i ≤ n ∧ v7 = .int .i64 (i : Int) ∧ (pl = true → ∀ t j k, t < i → xls[t]? = some j → yls[t]? = some k → j = k) ∧ Below W0.heap.size W0 wr) (fun v7 _ => n - (intOf v7).toNat)
  case atStart => exact ⟨0, Nat.zero_le _, rfl, fun _ t j k ht => by omega, Below.refl _ _⟩
  case round =>
    obtain ⟨i, hi, rfl, hall, hb⟩ := hrel
    have HA := Lib.hid hall
    have HB := Lib.hid hb
    have a0 := kcell hb HA0.out
    have b0 := kcell hb HC0.out
    clear hall hb
    by_cases hlt : i < n
    · obtain ⟨j, hj⟩ : ∃ j, xls[i]? = some j := ⟨xls[i]'(by rw [← HXn.out]; exact hlt), List.getElem?_eq_getElem _⟩
      obtain ⟨k, hk⟩ : ∃ k, yls[i]? = some k := ⟨yls[i]'(by rw [← HYm.out]; exact hlt), List.getElem?_eq_getElem _⟩
      obtain ⟨b, o, ha, c0⟩ := ns_at (HX.out.up (up2 HB0.out HB.out)) hj
      obtain ⟨b2, o2, ha2, c1⟩ := ns_at (HY.out.up (up2 HB0.out HB.out)) hk
      have ha : xa = some ⟨b, o, none⟩ := ha
      have ha2 : ya = some ⟨b2, o2, none⟩ := ha2
      subst ha; subst ha2
      have e1 : IntKind.i64.wrap ((i : Int) + 1) = (i : Int) + 1 := IntWalk.i64_in _ (by omega)
      have hi0 : (0 : Int) ≤ (i : Int) := by omega
      have HJ := Lib.hid hj
      have HK := Lib.hid hk
      clear hj hk
      cases pl with
      | false =>
        go_wp2_with fail
        go_quiet (fail)
        go_wp2_with fail
        exact ⟨⟨i + 1, by omega, by go_num, ⟨fun z => (by cases z), blw HB.out _⟩⟩, by simp [intOf]; omega⟩
      | true =>
        by_cases q : j = k
        · subst q
          go_wp2_with fail
          go_quiet (fail)
          go_wp2_with fail
          refine ⟨⟨i + 1, by omega, by go_num, fun _ t a b ht h1 h2 => ?_, blw HB.out _⟩, by simp [intOf]; omega⟩
          by_cases z : t = i
          · subst z
            rw [HJ.out] at h1
            rw [HK.out] at h2
            exact (Option.some.inj h1).symm.trans (Option.some.inj h2)
          · exact HA.out trivial t a b (by omega) h1 h2
        · have hne : ((j : Int) != (k : Int)) = true := by simp; omega
          go_wp2_with fail
          have hF : R = false := by
            rw [HR.out]
            simp [ns_diff (l := xls) (l' := yls) (HXn.out.symm.trans HYm.out) HJ.out HK.out q]
          subst hF
          go_quiet (fail)
          go_wp2_with fail
          go_ret
          exact ⟨rfl, blw (up2 HB0.out HB.out) _⟩
    · obtain rfl : i = n := by omega
      have hT : R = true := by
        rw [HR.out]
        cases pl with
        | false => rfl
        | true =>
          have := ns_same (l := xls) (l' := yls) (HXn.out.symm.trans HYm.out) fun t j k ht h1 h2 => HA.out rfl t j k (by rw [HXn.out]; exact ht) h1 h2
          simp [this]
      subst hT
      go_wp2_with fail
      go_ret
      exact ⟨rfl, up2 HB0.out HB.out⟩
end Go.Proofs.Ytjmgncjadfhmcaa
