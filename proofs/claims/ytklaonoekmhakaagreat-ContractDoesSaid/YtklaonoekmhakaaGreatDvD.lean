/- The reference's New, Alone. -/
import Derived.Test.YtklaonoekmhakaaGreatBqC
import Derived.Test.YtklaonoekmhakaaGreatAlJ
import Derived.Test.YtklaonoekmhakaaGreatByMath
import Derived.Test.YtklaonoekmhakaaGreatPoShare
namespace Go.Proofs.YtklaonoekmhakaaGreat
open Go.RowKit

/-- what the reference's New answers -/
def QNewR (w : World) (I : List Im) (e : Ending) (w' : World) : Prop :=
  (bnewE I ≠ 0 ∧ e = .returned (.tuple #[.pointer none, .int .i64 (bnewE I)]) ∧ Below w.heap.size w w') ∨
  (bnewE I = 0 ∧ ∃ p, e = .returned (.tuple #[.pointer (some ⟨p, 0, none⟩), .int .i64 0]) ∧ Rb w' p ⟨I, []⟩ ∧ Below w.heap.size w w' ∧ w.heap.size ≤ p)
theorem rb_new {w0 w : World} {a : Option Addr} {n c : Nat} {I : List Im} (hn : I.length = n) (hI : ItA w a I) (hb : Below w0.heap.size w0 w) :
    Rb (w.alloc (.cells #[.slice a n c, .slice none 0 0] 128)) w.heap.size ⟨I, []⟩ ∧ Below w0.heap.size w0 (w.alloc (.cells #[.slice a n c, .slice none 0 0] 128)) := by
  refine ⟨⟨a, c, none, 0, ?_, hI.up (boxed _ _), .inl rfl, fun _ => rfl⟩, hb.alloc hb.size _⟩
  show Has _ _ _ #[.slice a I.length c, .slice none ([] : List Pc).length 0]
  rw [hn]; exact Has.fresh w _ _
theorem im_bad {y : Im} (h : imB y = false) : y.tag < 0 ∨ (0 ≤ y.tag ∧ 2 < y.tag) ∨ (0 ≤ y.tag ∧ y.tag ≤ 2 ∧ y.grp < 0) ∨ (0 ≤ y.tag ∧ y.tag ≤ 2 ∧ 0 ≤ y.grp ∧ 99 < y.grp) ∨ (0 ≤ y.tag ∧ y.tag ≤ 2 ∧ 0 ≤ y.grp ∧ y.grp ≤ 99 ∧ y.met < 0) ∨
    (0 ≤ y.tag ∧ y.tag ≤ 2 ∧ 0 ≤ y.grp ∧ y.grp ≤ 99 ∧ 0 ≤ y.met ∧ 3 < y.met) ∨ (0 ≤ y.tag ∧ y.tag ≤ 2 ∧ 0 ≤ y.grp ∧ y.grp ≤ 99 ∧ 0 ≤ y.met ∧ y.met ≤ 3 ∧ y.pri < 1) := by
  have h' : ¬ (0 ≤ y.tag ∧ y.tag ≤ 2 ∧ 0 ≤ y.grp ∧ y.grp ≤ 99 ∧ 0 ≤ y.met ∧ y.met ≤ 3 ∧ 1 ≤ y.pri) := fun z => by
    have : imB y = true := by simp [imB, z]
    rw [h] at this; cases this
  omega
theorem im_good {y : Im} (h : imB y = true) : 0 ≤ y.tag ∧ y.tag ≤ 2 ∧ 0 ≤ y.grp ∧ y.grp ≤ 99 ∧ 0 ≤ y.met ∧ y.met ≤ 3 ∧ 1 ≤ y.pri := by
  simp [imB] at h; omega
set_option maxRecDepth 100000 in
set_option maxHeartbeats 16000000 in
theorem qnew_any (a : Option Addr) (n cap : Nat) (I : List Im) (w : World) (hn : I.length = n) (hI : ItA w a I) (ha : a = none → cap = 0) :
    Calls Tryz.prog 34 #[.slice a n cap] w (QNewR w I) := by
  by_cases q1 : 40 < n
  · have hE : bnewE I = 4 := by unfold bnewE; rw [if_pos (by omega)]
    have q1' : (40 : Int) < (n : Int) := by omega
    unfold QNewR
    rw [hE]
    clear hn hI ha hE
    go_enter Tryz.func34, Tryz.ntmps34
    go_wp2_with fail
    go_ret2
    exact .inl ⟨by omega, rfl, Below.refl _ _⟩
  · have hE : bnewE I = if I.all imB = true then 0 else 1 := by unfold bnewE; rw [if_neg (by omega)]
    have HE := Lib.hid hE
    have HI := Lib.hid hI
    have HA := Lib.hid ha
    have HN := Lib.hid hn
    have hn40 : n ≤ 40 := by omega
    clear hE hI ha hn q1
    go_enter Tryz.func34, Tryz.ntmps34
    go_wp2_with fail
    go_loopw [4] (fun i wr => ∃ k : Nat, k ≤ n ∧ i = .int .i64 (k : Int) ∧ Below w.heap.size w wr ∧ ∀ t y, t < k → I[t]? = some y → imB y = true) (fun i _ => n - (intOf i).toNat)
    case atStart => exact ⟨0, Nat.zero_le _, rfl, Below.refl _ _, fun t y h => by omega⟩
    case round =>
      obtain ⟨k, hk, rfl, hb, hall⟩ := hrel
      have HB := Lib.hid hb
      have HAll := Lib.hid hall
      clear hb hall
      by_cases hlt : k < n
      · obtain ⟨y, hy⟩ : ∃ y, I[k]? = some y := ⟨I[k]'(by rw [HN.out]; exact hlt), List.getElem?_eq_getElem _⟩
        obtain ⟨b, o, hab, c0, c1, c2, c3⟩ := im_at (HI.out.up HB.out) hy
        subst hab
        have HY := Lib.hid hy
        have HB1 : Hid (Below w.heap.size w (wr.alloc (.cells #[.int .i64 y.tag, .int .i64 y.grp, .int .i64 y.met, .int .i64 y.pri] 72))) := HB.out.alloc HB.out.size _
        clear hy
        cases q : imB y with
        | true =>
          obtain ⟨g0, g1, g2, g3, g4, g5, g6⟩ := im_good q
          have t0 : decide (y.tag < 0) = false := decide_eq_false (by omega)
          have t1 : decide (2 < y.tag) = false := decide_eq_false (by omega)
          have t2 : decide (y.grp < 0) = false := decide_eq_false (by omega)
          have t3 : decide (99 < y.grp) = false := decide_eq_false (by omega)
          have t4 : decide (y.met < 0) = false := decide_eq_false (by omega)
          have t5 : decide (3 < y.met) = false := decide_eq_false (by omega)
          have t6 : decide (y.pri < 1) = false := decide_eq_false (by omega)
          have HQ := Lib.hid q
          clear q g0 g1 g2 g3 g4 g5 g6
          go_wp2_with fail
          go_roundw
          case rel =>
            refine ⟨k + 1, by omega, by go_num, HB1.out, fun t z ht hz => ?_⟩
            by_cases e : t = k
            · subst e; rw [HY.out] at hz; obtain rfl := Option.some.inj hz; exact HQ.out
            · exact HAll.out t z (by omega) hz
          case measure => simp [intOf]; omega
        | false =>
          have hno : ¬ I.all imB = true := fun z => by
            have := List.all_eq_true.1 z y (List.mem_of_getElem? HY.out)
            rw [q] at this; cases this
          have hE := HE.out
          rw [if_neg hno] at hE
          have HE1 := Lib.hid hE
          have hbad := im_bad q
          clear q hno hE
          rcases hbad with h | ⟨h0, h⟩ | ⟨h0, h1, h⟩ | ⟨h0, h1, h2, h⟩ | ⟨h0, h1, h2, h3, h⟩ | ⟨h0, h1, h2, h3, h4, h⟩ | ⟨h0, h1, h2, h3, h4, h5, h⟩
          all_goals
            go_wp2_with fail
            go_ret2
            exact .inl ⟨by rw [HE1.out]; omega, by rw [HE1.out]; rfl, HB1.out⟩
      · obtain rfl : k = n := by omega
        have hyes : I.all imB = true := List.all_eq_true.2 fun x hx => by
          obtain ⟨i, hi⟩ := List.getElem?_of_mem hx
          have := (List.getElem?_eq_some_iff.1 hi).1
          exact HAll.out i x (by rw [HN.out] at this; exact this) hi
        have hE := HE.out
        rw [if_pos hyes] at hE
        have HE1 := Lib.hid hE
        obtain ⟨W1, hW1⟩ : ∃ W1, W1 = wr.alloc (.cells #[] 72) := ⟨_, rfl⟩
        have hb1 : Below wr.heap.size wr W1 := by rw [hW1]; exact boxed _ _
        obtain ⟨v', w5, hr, ⟨a', c', rfl, hI', hb5⟩, _⟩ := app_items 22 HN.out (by omega) ((HI.out.up HB.out).up hb1) HA.out hb1 (by rw [hW1]; exact Has.fresh _ _ _) (Nat.le_refl _)
        rw [HN.out] at hr
        have HR := Lib.hid hr
        have HNew := Lib.hid (rb_new (c := c') HN.out hI' (up2 HB.out hb5))
        have HL := Lib.hid (Nat.le_trans HB.out.size hb5.size)
        have HW1 := Lib.hid hW1
        clear hyes hE hW1 hb1 hr hI' hb5
        go_wp2_with (first | (rw [← HW1.out]; refine wpList_run (o := ⟨some 54, _, _, _, _, _⟩) rfl (.tmp 52) (.tmp 53) 22 rfl _ _ rfl rfl (S := fun u q => .slice a' k c' = u ∧ w5 = q) ⟨_, _, HR.out, rfl, rfl⟩ ?_; rintro u q ⟨rfl, rfl⟩) | fail)
        go_ret2
        exact .inr ⟨HE1.out, _, rfl, HNew.out.1, HNew.out.2, HL.out⟩
section
variable {w : World} {p : Nat} {S : Bs}
/-- the box of a line -/
def LnX (X : Nat) (it un : Int) (w : World) : Prop := w.cell? ⟨X, 0, none⟩ = some (.int .i64 it) ∧ w.cell? ⟨X, 1, none⟩ = some (.int .i64 un)
theorem LnX.up {X : Nat} {it un : Int} {w w' : World} (h : LnX X it un w) (q : Below w.heap.size w w') : LnX X it un w' := ⟨kcell q h.1, kcell q h.2⟩
set_option maxRecDepth 100000 in
set_option maxHeartbeats 8000000 in
theorem qalone_any (x : Ln) (d : Int) (h : Rb w p S) (F : FineB S) (hlen : S.L.length ≤ 1000) (hu : Am x.un) : Calls Tryz.prog 106 #[.pointer (some ⟨p, 0, none⟩), x.val, .int .i64 d] w fun e w' => e = .returned (.tuple #[.int .i64 (aloV S x d), .int .i64 (aloE S x d)]) ∧ Below w.heap.size w w' := by
  have HT := Lib.hid (fun (W : World) (hb : Below w.heap.size w W) => qmay_any x (h.up hb))
  have HP := Lib.hid (fun (W : World) (hb : Below w.heap.size w W) => qprice_any x.it d (h.up hb) hlen)
  have HAm := Lib.hid (priV_am F x.it d)
  have HU := Lib.hid hu
  unfold Ln.val at HT ⊢
  clear h hu F hlen
  cases hl : lnB S x with
  | false =>
    rw [show aloV S x d = 0 by simp [aloV, hl], show aloE S x d = 1 by simp [aloE, hl]]
    rw [hl] at HT
    clear hl
    go_enter Tryz.func106, Tryz.ntmps106
    go_wp2_with fail
    refine (HT.out _ (boxed _ _)).mono ?_
    rintro e w1 ⟨rfl, hb1⟩
    have HB := Lib.hid (up2 (boxed _ _) hb1)
    clear hb1
    go_wp2_with fail
    go_ret2
    exact ⟨rfl, HB.out⟩
  | true =>
    have hpe := priE_ln hl d
    by_cases q : d < 0
    · rw [show aloV S x d = 0 by simp [aloV, hl, q], show aloE S x d = 1 by simp [aloE, hl, q]]
      have t0 : decide (d < 0) = true := decide_eq_true q
      rw [hl] at HT
      clear hl hpe q
      go_enter Tryz.func106, Tryz.ntmps106
      go_wp2_with fail
      refine (HT.out _ (boxed _ _)).mono ?_
      rintro e w1 ⟨rfl, hb1⟩
      have HB := Lib.hid (up2 (boxed _ _) hb1)
      clear hb1
      go_wp2_with fail
      go_ret2
      exact ⟨rfl, HB.out⟩
    · rw [show aloV S x d = tellV (priV S x.it d * x.un) by simp [aloV, hl, q], show aloE S x d = tellE (priV S x.it d * x.un) by simp [aloE, hl, q]]
      have t0 : decide (d < 0) = false := decide_eq_false q
      rw [hl] at HT
      rw [if_neg q] at hpe
      unfold PriR at HP
      rw [hpe] at HP
      obtain ⟨v, hv⟩ : ∃ v, v = priV S x.it d := ⟨_, rfl⟩
      rw [← hv] at HP HAm ⊢
      have HSm := Lib.hid (mul_small HAm.out HU.out)
      have HOV := Lib.hid (fun W => of_any v W HAm.out.1 HAm.out.2)
      have HOU := Lib.hid (fun W => of_any x.un W HU.out.1 HU.out.2)
      have HSV := Lib.hid (small64 HAm.out.1 HAm.out.2)
      have HSU := Lib.hid (small64 HU.out.1 HU.out.2)
      clear hl hpe hv q
      go_enter Tryz.func106, Tryz.ntmps106
      go_wp2_with fail
      refine (HT.out _ (boxed _ _)).mono ?_
      rintro e w1 ⟨rfl, hb1⟩
      have hx1 : LnX w.heap.size x.it x.un w1 := LnX.up ⟨by simp [go_sem], by simp [go_sem]⟩ hb1
      have c0 := hx1.1
      have HB := Lib.hid (up2 (boxed _ _) hb1)
      have HX1 := Lib.hid hx1
      clear hb1 hx1
      go_wp2_with fail
      refine (HP.out _ HB.out).mono ?_
      rintro e w2 ⟨rfl, hb2⟩
      have HB2 := Lib.hid (up2 HB.out hb2)
      have HX2 := Lib.hid (HX1.out.up hb2)
      clear hb2 c0
      have K0 : Hid (LnX w.heap.size x.it x.un w2.drew) := HX2.out.up (Below.refl _ _).drew
      have e1 := HX2.out.2
      go_wp2_with fail
      go_region_held3 (fun w' => w'.cell? ⟨w.heap.size, 0, none⟩ = some (.int .i64 x.it) ∧ w'.cell? ⟨w.heap.size, 1, none⟩ = some (.int .i64 x.un))
        (first | (change LnX w.heap.size x.it x.un _; (first | with_reducible exact K0.out | with_reducible exact k1.out | with_reducible exact k2.out | with_reducible exact k3.out | with_reducible exact k4.out)))
        (first
          | (go_at_call 77; ((with_reducible refine (HOV.out _).mono ?_); rintro e u1 ⟨s1, a1, n1, p1, rfl, hE1, hb1⟩; have k1 := Lib.hid (K0.out.up hb1); have b1 := Lib.hid (up2 HB2.out.drew hb1); have E1 := Lib.hid hE1; clear hE1 hb1))
          | (go_at_call 77; ((with_reducible refine (HOU.out _).mono ?_); rintro e u2 ⟨s2, a2, n2, p2, rfl, hE2, hb2⟩; have k2 := Lib.hid (k1.out.up hb2); have b2 := Lib.hid (up2 b1.out hb2); have E1b := Lib.hid (E1.out.below hb2); have E2 := Lib.hid hE2; clear hE2 hb2))
          | (go_at_call 115; ((with_reducible refine (by_ex s1 s2 v x.un a1 a2 n1 n2 p1 p2 _ E1b.out E2.out HSV.out HSU.out).mono ?_); rintro e u3 ⟨s3, a3, n3, p3, rfl, hE3, hb3⟩; have k3 := Lib.hid (k2.out.up hb3); have b3 := Lib.hid (up2 b2.out hb3); have E3 := Lib.hid hE3; clear hE3 hb3))
          | (go_at_call 75; ((with_reducible refine (fit_any s3 (v * x.un) a3 n3 p3 _ E3.out HSm.out).mono ?_); rintro e u4 ⟨rfl, hb4⟩; have k4 := Lib.hid (k3.out.up hb4); have b4 := Lib.hid (up2 b3.out hb4); clear hb4)))
      all_goals
        go_wp2_with fail
        go_ret2
        exact ⟨rfl, b4.out⟩
end
end Go.Proofs.YtklaonoekmhakaaGreat

namespace Go.Proofs.YtklaonoekmhakaaGreat
open Go.RowKit

theorem zeroCells_one (z : Value) (n : Nat) : (Builtin.zeroCells #[z] n).toList = List.replicate n z := by
  apply List.ext_getElem?
  intro j
  by_cases hj : j < n
  · simp [Builtin.zeroCells, hj, Nat.mod_one]
  · simp [Builtin.zeroCells, hj]
/-- a row of places of a call's own, zeros behind it -/
def ZRow (W : World) (B : Nat) (v : Value) (ks : List Nat) : Prop :=
  (v = .slice none 0 0 ∧ ks = []) ∨ ∃ g cap, v = .slice (some ⟨g, 0, none⟩) ks.length cap ∧ B ≤ g ∧ ks.length ≤ cap ∧ cap ≤ maxLen ∧ ∃ cs, Has W g 3 cs ∧ cs.toList = ks.map natV ++ List.replicate (cap - ks.length) (.int .i64 0)
/-- what is left of exact numbers -/
def ExK (W W' : World) : Prop := ∀ s a len cap n, Ex W s a len cap n → Ex W' s a len cap n
section
variable {W W' : World} {B : Nat} {v : Value} {ks : List Nat}
theorem ZRow.up (h : ZRow W B v ks) (q : Below W.heap.size W W') : ZRow W' B v ks := by
  rcases h with h | ⟨g, cap, h1, h2, h3, h4, cs, h5, h6⟩
  · exact .inl h
  · exact .inr ⟨g, cap, h1, h2, h3, h4, cs, h5.up q, h6⟩
theorem ZRow.off (h : ZRow W B v ks) {N T : Nat} {cs : Array Value} (hN : Has W N T cs) (hT : T ≠ 3) (k : Nat) (u : Value) : ZRow (W.setCell ⟨N, k, none⟩ u) B v ks := by
  rcases h with h | ⟨g, cap, h1, h2, h3, h4, cs', h5, h6⟩
  · exact .inl h
  · exact .inr ⟨g, cap, h1, h2, h3, h4, cs', h5.off (p := ⟨N, k, none⟩) (h5.ne hN hT.symm) u, h6⟩
theorem ZRow.form (h : ZRow W B v ks) : ∃ a c, v = .slice a ks.length c ∧ NsA W a ks := by
  rcases h with ⟨h1, h2⟩ | ⟨g, cap, h1, h2, h3, h4, cs, h5, h6⟩
  · exact ⟨none, 0, by rw [h1, h2]; rfl, .inl h2⟩
  · refine ⟨_, cap, h1, .inr ⟨g, 0, rfl, fun i x hx j u hu => ?_⟩⟩
    match j, hu with
    | 0, hu =>
      simp [natC] at hu
      rw [h5.cell, show 0 + i * 1 + 0 = i by omega, ← Array.getElem?_toList, h6, List.getElem?_append_left (by rw [List.length_map]; exact (List.getElem?_eq_some_iff.1 hx).1), List.getElem?_map, hx, ← hu]; rfl
theorem dg_len {l : List Int} (ht : Top l) {n : Nat} (h0 : ∀ i, n ≤ i → i < l.length → dg l i = 0) : l.length ≤ n := by
  rcases ht with rfl | h
  · simp
  · by_cases q : l.length ≤ n
    · exact q
    · exact absurd (h0 (l.length - 1) (by omega) (by omega)) h
set_option maxRecDepth 100000 in
theorem ZRow.app (h : ZRow W B v ks) (hk : ks.length ≤ 1000) (hB : B ≤ W.heap.size) {k y : Nat} (hy : Has W y 3 #[.int .i64 (k : Int)]) {ty : TypeId} :
    ∃ v' w', (Builtin.append_ #[49, 49] ty #[v, .slice (some ⟨y, 0, none⟩) 1 1]).run Tryz.prog W = .ok v' w' ∧ ZRow w' B v' (ks ++ [k]) ∧ W.grownBy w' v.ownBlock ∧ ExK W w' := by
  obtain ⟨i, hi, hz, hs, hby⟩ := info_parts infoIntd
  have hnews : ∀ j u, [Value.int .i64 (k : Int)][j]? = some u → W.cell? ((⟨y, 0, none⟩ : Addr).add j) = some u := fun j u hu => by
    rw [addr_off, Nat.zero_add, hy.cell]
    exact (List.getElem?_toArray (xs := [Value.int .i64 (k : Int)]) (i := j)).trans hu
  have hzc : (Value.int .i64 0).cells = #[.int .i64 0] := rfl
  have hgrew : ∀ (cs : Array Value), Below W.heap.size W (W.drew.alloc (.cells cs 3)) := fun cs => (Below.refl W.heap.size W).drew.alloc (Nat.le_refl _) _
  rcases h with ⟨rfl, rfl⟩ | ⟨g, cap, rfl, h2, h3, h4, cs, h5, h6⟩
  · have hr := run_append_nil (P := Tryz.prog) W 49 ty 3 i _ Tryz.underlying49 hi hz ⟨y, 0, none⟩ 1 1 [.int .i64 (k : Int)] (by rw [hs]; rfl) hnews (by decide) (by decide) (by rw [hby]; decide)
    have hge := grownCap_ge W 1 0 3
    refine ⟨_, _, hr, .inr ⟨_, _, rfl, hB, hge, grownCap_le_maxLen W 1 0 _ (by unfold maxLen; omega), _, heap_alloc_new W.drew _, ?_⟩, grown_of (hgrew _) _, fun s a len cap n hE => hE.below (hgrew _)⟩
    rw [Array.toList_append, hzc, zeroCells_one]; rfl
  · by_cases hroom : ks.length + 1 ≤ cap
    · have hcs : cs.size = cap := by
        have := congrArg List.length h6
        rw [List.length_append, List.length_map, List.length_replicate, Array.length_toList] at this
        omega
      have hr := run_append_room (P := Tryz.prog) W 49 ty 3 i Tryz.underlying49 hi g ks.length cap cs h5 ⟨y, 0, none⟩ 1 1 [.int .i64 (k : Int)] (by rw [hs]; rfl) hnews (fun u hu => by simp at hu; rw [hu]; rfl) hroom (by rw [hs, hcs]; simp only [List.length_singleton]; omega)
      obtain ⟨C, hC⟩ : ∃ C, C = (cs.toList.take (ks.length * i.size) ++ [Value.int .i64 (k : Int)] ++ cs.toList.drop (ks.length * i.size + [Value.int .i64 (k : Int)].length)).toArray := ⟨_, rfl⟩
      have hCl : C.toList = ks.map natV ++ [Value.int .i64 (k : Int)] ++ List.replicate (cap - ks.length - 1) (Value.int .i64 0) := by
        rw [hC, hs, Nat.mul_one, h6, List.length_singleton]
        rw [List.take_left' (by rw [List.length_map]), List.drop_append, List.length_map, List.drop_of_length_le (by rw [List.length_map]; omega), List.nil_append, List.drop_replicate]
        simp only [List.append_assoc]
        congr 3
        omega
      rw [← hC] at hr
      have hset := setRow_heap W g cs C 3 (0, 0) h5
      have hoth : ∀ j, j ≠ g → (W.setRow g C).heap[j]? = W.heap[j]? := fun j hj => setRow_other W g j C hj
      refine ⟨_, _, hr, .inr ⟨g, cap, by rw [List.length_append]; rfl, h2, by rw [List.length_append]; exact hroom, h4, C, hset, ?_⟩, ⟨rfl, rfl, rfl, by simp, fun j _ hj => hoth j (fun e => hj (by rw [e]; rfl))⟩, ?_⟩
      · rw [hCl, List.map_append, List.length_append, List.length_singleton]
        congr 1
      · rintro s a len cap' n ⟨e1, l, e2, e3, e4, e5, e6⟩
        refine ⟨e1, l, e2, ?_, e4, e5, e6⟩
        rcases e3 with e3 | ⟨g', d1, d2, ⟨cur, fr, d3⟩, d4⟩
        · exact .inl e3
        · by_cases q : g' = g
          · subst q
            have hle : l.length ≤ ks.length := dg_len e5 fun j hj hjl => by
              have := d4 j hjl
              rw [Has.cell h5, ← Array.getElem?_toList, h6, List.getElem?_append_right (by rw [List.length_map]; exact hj), List.getElem?_replicate] at this
              split at this
              · have := Option.some.inj this
                injection this with _ this
                exact this.symm
              · cases this
            refine .inr ⟨g', d1, d2, ⟨C, _, hset⟩, fun j hj => ?_⟩
            have h7 := d4 j hj
            rw [Has.cell h5, ← Array.getElem?_toList, h6, List.getElem?_append_left (by rw [List.length_map]; omega)] at h7
            rw [Has.cell hset, ← Array.getElem?_toList, hCl, List.append_assoc, List.getElem?_append_left (by rw [List.length_map]; omega)]
            exact h7
          · refine .inr ⟨g', d1, d2, ⟨cur, fr, by rw [hoth g' q]; exact d3⟩, fun j hj => ?_⟩
            rw [World.cell?_of_block (hoth g' q)]; exact d4 j hj
    · have hr := run_append_grow (P := Tryz.prog) W 49 ty 3 i _ Tryz.underlying49 hi hz ⟨g, 0, none⟩ ks.length cap (ks.map natV) (by rw [hs]; simp) (fun j u hu => by
        rw [addr_off, Nat.zero_add, Has.cell h5, ← Array.getElem?_toList, h6, List.getElem?_append_left (List.getElem?_eq_some_iff.1 hu).1]; exact hu) ⟨y, 0, none⟩ 1 1 [.int .i64 (k : Int)] (by rw [hs]; rfl) hnews (by omega) (by omega) (growslice_fits (by omega) (by rw [hby]; omega))
      have hge := grownCap_ge W (ks.length + 1) cap 3
      refine ⟨_, _, hr, .inr ⟨_, _, by rw [List.length_append]; rfl, hB, by rw [List.length_append]; exact hge, grownCap_le_maxLen W (ks.length + 1) cap _ (by unfold maxLen; omega), _, heap_alloc_new W.drew _, ?_⟩, grown_of (hgrew _) _, fun s a len cap n hE => hE.below (hgrew _)⟩
      rw [Array.toList_append, Array.toList_append, hzc, zeroCells_one, List.map_append, List.length_append]; rfl
end
end Go.Proofs.YtklaonoekmhakaaGreat
