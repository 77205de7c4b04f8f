/- The reference's Same. -/
import Derived.Test.YtjmgncjadfhmcaaDvA
namespace Go.Proofs.Ytjmgncjadfhmcaa
open Go.RowKit

/-- are obligations the same? -/
def sameP (L M : List Du) : Bool := decide (L.length = M.length) && (List.range L.length).all fun i => decide ((L[i]?).map (fun a => (M[i]?).map (fun b => oneP true a b)) = some (some true))
theorem one_refl (a : Du) (pl : Bool) : oneP pl a a = true := by unfold oneP; simp
theorem same_refl (L : List Du) : sameP L L = true := by
  unfold sameP
  rw [Bool.and_eq_true]
  refine ⟨by simp, List.all_eq_true.2 fun i hi => ?_⟩
  have hi := List.mem_range.1 hi
  rw [List.getElem?_eq_getElem hi, decide_eq_true_eq, Option.map_some, Option.map_some, one_refl]
/-- the cells of two obligations -/
def D2 (w : World) (b1 o1 : Nat) (x : DuX) (b2 o2 : Nat) (y : DuX) : Prop :=
  w.cell? ⟨b1, o1, none⟩ = some (.slice x.a x.d.ls.length x.cap) ∧ w.cell? ⟨b1, o1 + 1, none⟩ = some (.int .i64 x.d.al) ∧ w.cell? ⟨b1, o1 + 2, none⟩ = some (.int .i64 x.d.un) ∧ w.cell? ⟨b1, o1 + 3, none⟩ = some (.int .i64 x.d.me) ∧ w.cell? ⟨b1, o1 + 4, none⟩ = some (.int .i64 x.d.fi) ∧ w.cell? ⟨b1, o1 + 5, none⟩ = some (.int .i64 x.d.la) ∧ w.cell? ⟨b2, o2, none⟩ = some (.slice y.a y.d.ls.length y.cap) ∧ w.cell? ⟨b2, o2 + 1, none⟩ = some (.int .i64 y.d.al) ∧ w.cell? ⟨b2, o2 + 2, none⟩ = some (.int .i64 y.d.un) ∧ w.cell? ⟨b2, o2 + 3, none⟩ = some (.int .i64 y.d.me) ∧ w.cell? ⟨b2, o2 + 4, none⟩ = some (.int .i64 y.d.fi) ∧ w.cell? ⟨b2, o2 + 5, none⟩ = some (.int .i64 y.d.la)
theorem D2.up {w w' : World} {b1 o1 b2 o2 : Nat} {x y : DuX} (h : D2 w b1 o1 x b2 o2 y) (q : Below w.heap.size w w') : D2 w' b1 o1 x b2 o2 y := by
  obtain ⟨h0, h1, h2, h3, h4, h5, k0, k1, k2, k3, k4, k5⟩ := h
  exact ⟨kcell q h0, kcell q h1, kcell q h2, kcell q h3, kcell q h4, kcell q h5, kcell q k0, kcell q k1, kcell q k2, kcell q k3, kcell q k4, kcell q k5⟩
theorem D2.drew {w : World} {b1 o1 b2 o2 : Nat} {x y : DuX} (h : D2 w b1 o1 x b2 o2 y) : D2 w.drew b1 o1 x b2 o2 y := h
set_option maxRecDepth 100000 in
set_option maxHeartbeats 4000000 in
theorem same_any11 (a b : Option Addr) (ca cb : Nat) (X Y : List DuX) (w : World) (hX : DusA w a X) (hY : DusA w b Y) (hn : X.length ≤ 1000) (hln : ∀ x ∈ X, x.d.ls.length ≤ 1000) :
    Calls Try.prog 13 #[.slice a X.length ca, .slice b Y.length cb] w fun e w' => e = .returned (.bool (sameP (X.map DuX.d) (Y.map DuX.d))) ∧ Below w.heap.size w w' := by
  obtain ⟨n, hxn⟩ : ∃ n, n = X.length := ⟨_, rfl⟩
  obtain ⟨m, hym⟩ : ∃ m, m = Y.length := ⟨_, rfl⟩
  rw [← hxn] at hn ⊢
  rw [← hym]
  obtain ⟨R, hR⟩ : ∃ R, R = sameP (X.map DuX.d) (Y.map DuX.d) := ⟨_, rfl⟩
  rw [← hR]
  have HX := Lib.hid hX
  have HY := Lib.hid hY
  have HXn := Lib.hid hxn
  have HYm := Lib.hid hym
  have HLn := Lib.hid hln
  have HR := Lib.hid hR
  by_cases q : n = m
  · subst q
    clear hX hY hxn hym hln hR
    go_enter Try.func13, Try.ntmps13
    go_wp2_with fail
    go_loopw [5] (fun v5 wr => ∃ i : Nat, i ≤ n ∧ v5 = .int .i64 (i : Int) ∧ (∀ t x y, t < i → X[t]? = some x → Y[t]? = some y → oneP true x.d y.d = true) ∧ Below w.heap.size w wr) (fun v5 _ => n - (intOf v5).toNat)
    case atStart => exact ⟨0, Nat.zero_le _, rfl, fun t x y ht => by omega, Below.refl _ _⟩
    case round =>
      obtain ⟨i, hi, rfl, hall, hb⟩ := hrel
      have HA := Lib.hid hall
      have HB := Lib.hid hb
      clear hall hb
      by_cases hlt : i < n
      · obtain ⟨x, hx⟩ : ∃ x, X[i]? = some x := ⟨X[i]'(by rw [← HXn.out]; exact hlt), List.getElem?_eq_getElem _⟩
        obtain ⟨y, hy⟩ : ∃ y, Y[i]? = some y := ⟨Y[i]'(by rw [← HYm.out]; exact hlt), List.getElem?_eq_getElem _⟩
        obtain ⟨b1, o1, ha, c0, c1, c2, c3, c4, c5, hxs⟩ := dus_at (HX.out.up HB.out) hx
        obtain ⟨b2, o2, hb', d0, d1, d2, d3, d4, d5, hys⟩ := dus_at (HY.out.up HB.out) hy
        subst ha; subst hb'
        have HOne := Lib.hid (fun (W : World) (q : Below wr.heap.size wr W) => one_any x y true W (hxs.up q) (hys.up q) (HLn.out x (List.mem_of_getElem? hx)))
        simp only [DuX.val] at HOne
        have e1 : IntKind.i64.wrap ((i : Int) + 1) = (i : Int) + 1 := IntWalk.i64_in _ (by omega)
        have hi0 : (0 : Int) ≤ (i : Int) := by omega
        have HXx := Lib.hid hx
        have HYy := Lib.hid hy
        obtain ⟨O, hO⟩ : ∃ O, O = oneP true x.d y.d := ⟨_, rfl⟩
        rw [← hO] at HOne
        have HO := Lib.hid hO
        have HD : Hid (D2 wr b1 (o1 + i * 6) x b2 (o2 + i * 6) y) := ⟨c0, c1, c2, c3, c4, c5, d0, d1, d2, d3, d4, d5⟩
        clear hx hy hxs hys hO
        cases O with
        | true =>
          go_wp2_with fail
          go_region_held3 (fun w' => w'.cell? ⟨b1, o1 + i * 6, none⟩ = some (.slice x.a x.d.ls.length x.cap) ∧ w'.cell? ⟨b1, o1 + i * 6 + 1, none⟩ = some (.int .i64 x.d.al) ∧ w'.cell? ⟨b1, o1 + i * 6 + 2, none⟩ = some (.int .i64 x.d.un) ∧ w'.cell? ⟨b1, o1 + i * 6 + 3, none⟩ = some (.int .i64 x.d.me) ∧ w'.cell? ⟨b1, o1 + i * 6 + 4, none⟩ = some (.int .i64 x.d.fi) ∧ w'.cell? ⟨b1, o1 + i * 6 + 5, none⟩ = some (.int .i64 x.d.la) ∧ w'.cell? ⟨b2, o2 + i * 6, none⟩ = some (.slice y.a y.d.ls.length y.cap) ∧ w'.cell? ⟨b2, o2 + i * 6 + 1, none⟩ = some (.int .i64 y.d.al) ∧ w'.cell? ⟨b2, o2 + i * 6 + 2, none⟩ = some (.int .i64 y.d.un) ∧ w'.cell? ⟨b2, o2 + i * 6 + 3, none⟩ = some (.int .i64 y.d.me) ∧ w'.cell? ⟨b2, o2 + i * 6 + 4, none⟩ = some (.int .i64 y.d.fi) ∧ w'.cell? ⟨b2, o2 + i * 6 + 5, none⟩ = some (.int .i64 y.d.la))
            ((change D2 _ b1 (o1 + i * 6) x b2 (o2 + i * 6) y; with_reducible (first | exact HD.out.drew | exact kD1.out))) (first | (go_at_call 16; ((with_reducible refine (HOne.out _ (Below.refl _ _).drew).mono ?_); rintro e w1 ⟨rfl, hb1⟩; have HB1 := Lib.hid (up2 HB.out.drew hb1); have kD1 := Lib.hid (HD.out.drew.up hb1); clear hb1)))
          all_goals
            clear HOne
            go_wp2_with fail
            refine ⟨⟨i + 1, by omega, by go_num, fun t a b ht h1 h2 => ?_, HB1.out⟩, by simp [intOf]; omega⟩
            by_cases z : t = i
            · subst z
              rw [HXx.out] at h1
              rw [HYy.out] at h2
              rw [← Option.some.inj h1, ← Option.some.inj h2]; exact HO.out.symm
            · exact HA.out t a b (by omega) h1 h2
        | false =>
          have hF : R = false := by
            rw [HR.out]
            unfold sameP
            rw [Bool.and_eq_false_iff]
            refine .inr ?_
            rw [Bool.eq_false_iff]
            intro z
            have := List.all_eq_true.1 z i (List.mem_range.2 (by rw [List.length_map, ← HXn.out]; exact hlt))
            rw [List.getElem?_map, List.getElem?_map, HXx.out, HYy.out, decide_eq_true_eq, Option.map_some, Option.map_some, Option.map_some, Option.map_some, ← HO.out] at this
            cases this
          subst hF
          go_wp2_with fail
          go_region_held3 (fun w' => w'.cell? ⟨b1, o1 + i * 6, none⟩ = some (.slice x.a x.d.ls.length x.cap) ∧ w'.cell? ⟨b1, o1 + i * 6 + 1, none⟩ = some (.int .i64 x.d.al) ∧ w'.cell? ⟨b1, o1 + i * 6 + 2, none⟩ = some (.int .i64 x.d.un) ∧ w'.cell? ⟨b1, o1 + i * 6 + 3, none⟩ = some (.int .i64 x.d.me) ∧ w'.cell? ⟨b1, o1 + i * 6 + 4, none⟩ = some (.int .i64 x.d.fi) ∧ w'.cell? ⟨b1, o1 + i * 6 + 5, none⟩ = some (.int .i64 x.d.la) ∧ w'.cell? ⟨b2, o2 + i * 6, none⟩ = some (.slice y.a y.d.ls.length y.cap) ∧ w'.cell? ⟨b2, o2 + i * 6 + 1, none⟩ = some (.int .i64 y.d.al) ∧ w'.cell? ⟨b2, o2 + i * 6 + 2, none⟩ = some (.int .i64 y.d.un) ∧ w'.cell? ⟨b2, o2 + i * 6 + 3, none⟩ = some (.int .i64 y.d.me) ∧ w'.cell? ⟨b2, o2 + i * 6 + 4, none⟩ = some (.int .i64 y.d.fi) ∧ w'.cell? ⟨b2, o2 + i * 6 + 5, none⟩ = some (.int .i64 y.d.la))
            ((change D2 _ b1 (o1 + i * 6) x b2 (o2 + i * 6) y; with_reducible (first | exact HD.out.drew | exact kD1.out))) (first | (go_at_call 16; ((with_reducible refine (HOne.out _ (Below.refl _ _).drew).mono ?_); rintro e w1 ⟨rfl, hb1⟩; have HB1 := Lib.hid (up2 HB.out.drew hb1); have kD1 := Lib.hid (HD.out.drew.up hb1); clear hb1)))
          all_goals
            clear HOne
            go_wp2_with fail
            go_ret
            exact ⟨rfl, HB1.out⟩
      · obtain rfl : i = n := by omega
        have hT : R = true := by
          rw [HR.out]
          unfold sameP
          rw [Bool.and_eq_true, List.length_map, List.length_map, ← HXn.out, ← HYm.out]
          refine ⟨by simp, List.all_eq_true.2 fun t ht => ?_⟩
          have ht := List.mem_range.1 ht
          obtain ⟨x, hx⟩ : ∃ x, X[t]? = some x := ⟨X[t]'(by rw [← HXn.out]; exact ht), List.getElem?_eq_getElem _⟩
          obtain ⟨y, hy⟩ : ∃ y, Y[t]? = some y := ⟨Y[t]'(by rw [← HYm.out]; exact ht), List.getElem?_eq_getElem _⟩
          rw [List.getElem?_map, List.getElem?_map, hx, hy, decide_eq_true_eq, Option.map_some, Option.map_some, Option.map_some, Option.map_some, HA.out t x y ht hx hy]
        subst hT
        go_wp2_with fail
        go_ret
        exact ⟨rfl, HB.out⟩
  · have hF : R = false := by
      rw [hR]; unfold sameP
      rw [List.length_map, List.length_map, ← hxn, ← hym]
      simp [q]
    subst hF
    have hne : ((n : Int) != (m : Int)) = true := by simp; omega
    clear hX hY hxn hym hln hR
    go_enter Try.func13, Try.ntmps13
    go_wp2_with fail
    go_ret
    exact ⟨rfl, Below.refl _ _⟩
end Go.Proofs.Ytjmgncjadfhmcaa
