/- takes, Check, Alone. -/
import Derived.Test.YtjmgncjadfhmcaaBoD
namespace Go.Proofs.Ytjmgncjadfhmcaa
open Go.RowKit

def Ln.val (x : Ln) : Value := .agg #[.int .i64 x.it, .int .i64 x.un, .int .i64 x.ch, .int .i64 x.fi, .int .i64 x.la]
section
variable {w : World} {p r : Nat} {S : Bs}
set_option maxRecDepth 100000 in
set_option maxHeartbeats 4000000 in
theorem takes_any (x : Ln) (h : Bk w p r S) : Calls Try.prog 28 #[.pointer (some ⟨p, 0, none⟩), x.val] w fun e w' => e = .returned (.bool (lnB S x)) ∧ Below w.heap.size w w' := by
  obtain ⟨it, un, ch, fi, la⟩ := x
  have HH := Lib.hid (fun (W : World) (hb : Below w.heap.size w W) => bhas_any it (h.up hb))
  show Calls Try.prog 28 #[.pointer (some ⟨p, 0, none⟩), .agg #[.int .i64 it, .int .i64 un, .int .i64 ch, .int .i64 fi, .int .i64 la]] w _
  clear h
  cases hi : hasB S it with
  | false =>
    rw [show lnB S ⟨it, un, ch, fi, la⟩ = false by simp [lnB, hi]]
    rw [hi] at HH
    clear hi
    go_enter Try.func28, Try.ntmps28
    go_wp2_with fail
    refine (HH.out _ (boxed _ _)).mono ?_
    rintro e w1 ⟨rfl, rfl⟩
    go_wp2_with fail
    go_ret
    exact ⟨rfl, boxed _ _⟩
  | true =>
    by_cases h0 : 1 ≤ un
    · by_cases h1 : 0 ≤ ch
      · by_cases h2 : 1 ≤ fi
        · by_cases h3 : fi ≤ la
          · by_cases h4 : la ≤ 1000000
            · rw [show lnB S ⟨it, un, ch, fi, la⟩ = true by simp [lnB, hi, h0, h1, h2, h3, h4]]
              have e4 : decide (la ≤ 1000000) = true := decide_eq_true h4
              rw [hi] at HH
              clear hi
              go_enter Try.func28, Try.ntmps28
              go_wp2_with fail
              refine (HH.out _ (boxed _ _)).mono ?_
              rintro e w1 ⟨rfl, rfl⟩
              go_wp2_with fail
              go_ret
              exact ⟨rfl, boxed _ _⟩
            · rw [show lnB S ⟨it, un, ch, fi, la⟩ = false by simp [lnB, hi, h0, h1, h2, h3, h4]]
              have e4 : decide (la ≤ 1000000) = false := decide_eq_false h4
              rw [hi] at HH
              clear hi
              go_enter Try.func28, Try.ntmps28
              go_wp2_with fail
              refine (HH.out _ (boxed _ _)).mono ?_
              rintro e w1 ⟨rfl, rfl⟩
              go_wp2_with fail
              go_ret
              exact ⟨rfl, boxed _ _⟩
          · rw [show lnB S ⟨it, un, ch, fi, la⟩ = false by simp [lnB, hi, h0, h1, h2, h3]]
            rw [hi] at HH
            clear hi
            go_enter Try.func28, Try.ntmps28
            go_wp2_with fail
            refine (HH.out _ (boxed _ _)).mono ?_
            rintro e w1 ⟨rfl, rfl⟩
            go_wp2_with fail
            go_ret
            exact ⟨rfl, boxed _ _⟩
        · rw [show lnB S ⟨it, un, ch, fi, la⟩ = false by simp [lnB, hi, h0, h1, h2]]
          rw [hi] at HH
          clear hi
          go_enter Try.func28, Try.ntmps28
          go_wp2_with fail
          refine (HH.out _ (boxed _ _)).mono ?_
          rintro e w1 ⟨rfl, rfl⟩
          go_wp2_with fail
          go_ret
          exact ⟨rfl, boxed _ _⟩
      · rw [show lnB S ⟨it, un, ch, fi, la⟩ = false by simp [lnB, hi, h0, h1]]
        rw [hi] at HH
        clear hi
        go_enter Try.func28, Try.ntmps28
        go_wp2_with fail
        refine (HH.out _ (boxed _ _)).mono ?_
        rintro e w1 ⟨rfl, rfl⟩
        go_wp2_with fail
        go_ret
        exact ⟨rfl, boxed _ _⟩
    · rw [show lnB S ⟨it, un, ch, fi, la⟩ = false by simp [lnB, hi, h0]]
      rw [hi] at HH
      clear hi
      go_enter Try.func28, Try.ntmps28
      go_wp2_with fail
      refine (HH.out _ (boxed _ _)).mono ?_
      rintro e w1 ⟨rfl, rfl⟩
      go_wp2_with fail
      go_ret
      exact ⟨rfl, boxed _ _⟩

theorem ln_at {a : Option Addr} {l : List Ln} (h : LnA w a l) {j : Nat} {x : Ln} (hx : l[j]? = some x) : ∃ b o, a = some ⟨b, o, none⟩ ∧ w.cell? ⟨b, o + j * 5, none⟩ = some (.int .i64 x.it) ∧ w.cell? ⟨b, o + j * 5 + 1, none⟩ = some (.int .i64 x.un) ∧ w.cell? ⟨b, o + j * 5 + 2, none⟩ = some (.int .i64 x.ch) ∧ w.cell? ⟨b, o + j * 5 + 3, none⟩ = some (.int .i64 x.fi) ∧ w.cell? ⟨b, o + j * 5 + 4, none⟩ = some (.int .i64 x.la) := by
  rcases h with z | ⟨b, o, z, hz⟩
  · rw [z] at hx; simp at hx
  · exact ⟨b, o, z, hz j x hx 0 _ rfl, hz j x hx 1 _ rfl, hz j x hx 2 _ rfl, hz j x hx 3 _ rfl, hz j x hx 4 _ rfl⟩
set_option maxRecDepth 100000 in
set_option maxHeartbeats 4000000 in
theorem check_any (a : Option Addr) (cap : Nat) (l : List Ln) (h : Bk w p r S) (hl : LnA w a l) : Calls Try.prog 22 #[.pointer (some ⟨p, 0, none⟩), .slice a l.length cap] w fun e w' => e = .returned (.int .i64 (chkE S l)) ∧ Below w.heap.size w w' := by
  obtain ⟨n, hn⟩ : ∃ n, n = l.length := ⟨_, rfl⟩
  have hE : chkE S l = if 12 < n then 4 else if n = 0 then 1 else if l.all (lnB S) = true then 0 else 1 := by rw [hn]; rfl
  rw [hE, ← hn]
  clear hE
  by_cases q1 : 12 < n
  · rw [if_pos q1]
    have q1' : ((12 : Int) < (n : Int)) := by omega
    clear h hl hn
    go_enter Try.func22, Try.ntmps22
    go_wp2_with fail
    go_ret
    exact ⟨rfl, Below.refl _ _⟩
  · rw [if_neg q1]
    by_cases q2 : n = 0
    · rw [if_pos q2]
      subst q2
      clear h hl hn q1
      go_enter Try.func22, Try.ntmps22
      go_wp2_with fail
      go_ret
      exact ⟨rfl, Below.refl _ _⟩
    · rw [if_neg q2]
      have hlen : n ≤ 12 := by omega
      have hz : ((n : Int) == 0) = false := by simp; omega
      obtain ⟨E, hE⟩ : ∃ E : Int, E = if l.all (lnB S) = true then 0 else 1 := ⟨_, rfl⟩
      rw [← hE]
      have HE := Lib.hid hE
      have HT := Lib.hid (fun (W : World) (hb : Below w.heap.size w W) (x : Ln) => takes_any x (h.up hb))
      have HL := Lib.hid hl
      have HN := Lib.hid hn
      clear h hl hn q1 q2 hE
      go_enter Try.func22, Try.ntmps22
      go_wp2_with fail
      go_loopw [15] (fun i wr => ∃ k : Nat, k ≤ n ∧ i = .int .i64 (k : Int) ∧ (∀ t x, t < k → l[t]? = some x → lnB S x = true) ∧ Below w.heap.size w wr) (fun i _ => n - (intOf i).toNat)
      case atStart => exact ⟨0, Nat.zero_le _, rfl, fun t x ht _ => by omega, Below.refl _ _⟩
      case round =>
        obtain ⟨k, hk, rfl, hall, hb⟩ := hrel
        have HA := Lib.hid hall
        have HB := Lib.hid hb
        clear hall hb
        by_cases hlt : k < n
        · obtain ⟨x, hx⟩ : ∃ x, l[k]? = some x := ⟨l[k]'(by rw [← HN.out]; exact hlt), List.getElem?_eq_getElem _⟩
          obtain ⟨b, o, ha, c0, c1, c2, c3, c4⟩ := ln_at (HL.out.up HB.out) hx
          subst ha
          have HX := Lib.hid hx
          clear hx
          go_wp2_with fail
          have hT := HT.out (wr.alloc (.cells #[.int .i64 x.it, .int .i64 x.un, .int .i64 x.ch, .int .i64 x.fi, .int .i64 x.la] 45)) (HB.out.alloc HB.out.size _) x
          unfold Ln.val at hT
          refine hT.mono ?_
          rintro e w1 ⟨rfl, hb1⟩
          have HB1 := Lib.hid ((HB.out.alloc HB.out.size _).trans (hb1.mono (by simp; have := HB.out.size; omega)))
          clear hT hb1 c0 c1 c2 c3 c4
          cases q : lnB S x with
          | true =>
            have HQ := Lib.hid q
            clear q
            go_wp2_with fail
            go_roundw
            case rel =>
              refine ⟨k + 1, by omega, by go_num, fun t y ht hy => ?_, HB1.out⟩
              by_cases z : t = k
              · subst z; rw [HX.out] at hy; obtain rfl := Option.some.inj hy; exact HQ.out
              · exact HA.out t y (by omega) hy
            case measure => simp [intOf]; omega
          | false =>
            have hno : ¬ l.all (lnB S) = true := fun z => by
              have := List.all_eq_true.1 z x (List.mem_of_getElem? HX.out)
              rw [q] at this; cases this
            have hE : E = 1 := by rw [HE.out, if_neg hno]
            subst hE
            clear q hno
            go_wp2_with fail
            go_ret
            exact ⟨rfl, HB1.out⟩
        · have hyes : l.all (lnB S) = true := List.all_eq_true.2 fun x hx => by
            obtain ⟨i, hi⟩ := List.getElem?_of_mem hx
            have := (List.getElem?_eq_some_iff.1 hi).1
            exact HA.out i x (by rw [← HN.out] at this; omega) hi
          have hE : E = 0 := by rw [HE.out, if_pos hyes]
          subst hE
          clear hyes
          go_wp2_with fail
          go_ret
          exact ⟨rfl, HB.out⟩

/-- what a line is worth alone -/
def aloE (S : Bs) (x : Ln) (d : Int) : Int := if lnB S x = false then 1 else if d < 0 then 1 else tellE (priV S x.it d * x.un)
def aloV (S : Bs) (x : Ln) (d : Int) : Int := if lnB S x = false then 0 else if d < 0 then 0 else tellV (priV S x.it d * x.un)
theorem priV_am (F : FineB S) (i d : Int) : Am (priV S i d) := by
  unfold priV
  by_cases h : priE S i d = 0
  · rw [if_pos h]
    obtain ⟨_, h1, _⟩ := best_is S i d
    rcases h1 with h1 | ⟨x, hx, _, _, h1⟩
    · rw [h1]
      show Am (pri0 S i)
      unfold pri0
      cases q : S.I[i.toNat]? with
      | none => exact am_small (by decide) (by decide)
      | some y => exact (F.items y (List.mem_of_getElem? q)).2
    · rw [h1]; exact (F.am x hx).2
  · rw [if_neg h]; exact am_small (by decide) (by decide)
theorem lnB_has {x : Ln} (h : lnB S x = true) : hasB S x.it = true ∧ 1 ≤ x.un := by
  simp [lnB] at h
  exact ⟨h.1.1.1.1.1, h.1.1.1.1.2⟩
theorem priE_ln {x : Ln} (h : lnB S x = true) (d : Int) : priE S x.it d = if d < 0 then 1 else 0 := by
  unfold priE
  rw [if_neg (by rw [(lnB_has h).1]; simp)]
set_option maxRecDepth 100000 in
set_option maxHeartbeats 4000000 in
theorem alone_any (x : Ln) (d : Int) (h : Bk w p r S) (hu : Am x.un) : Calls Try.prog 14 #[.pointer (some ⟨p, 0, none⟩), x.val, .int .i64 d] w fun e w' => e = .returned (.tuple #[.int .i64 (aloV S x d), .int .i64 (aloE S x d)]) ∧ Below w.heap.size w w' := by
  have HT := Lib.hid (fun (W : World) (hb : Below w.heap.size w W) => takes_any x (h.up hb))
  have HP := Lib.hid (fun (W : World) (hb : Below w.heap.size w W) => price_any x.it d (h.up hb))
  have HAm := Lib.hid (priV_am h.fine x.it d)
  have HU := Lib.hid hu
  unfold Ln.val at HT ⊢
  clear h hu
  cases hl : lnB S x with
  | false =>
    rw [show aloV S x d = 0 by simp [aloV, hl], show aloE S x d = 1 by simp [aloE, hl]]
    rw [hl] at HT
    clear hl
    go_enter Try.func14, Try.ntmps14
    go_wp2_with fail
    refine (HT.out _ (boxed _ _)).mono ?_
    rintro e w1 ⟨rfl, hb1⟩
    have HB := Lib.hid (up2 (boxed _ _) hb1)
    clear hb1
    go_wp2_with fail
    go_ret2
    exact ⟨rfl, HB.out⟩
  | true =>
    have hpe := priE_ln hl d
    obtain ⟨_, hu1⟩ := lnB_has hl
    rw [hl] at HT
    by_cases q : d < 0
    · rw [show aloV S x d = 0 by simp [aloV, hl, q], show aloE S x d = 1 by simp [aloE, hl, q]]
      rw [if_pos q] at hpe
      unfold PriR at HP
      rw [hpe] at HP
      clear hl hpe
      go_enter Try.func14, Try.ntmps14
      go_wp2_with fail
      refine (HT.out _ (boxed _ _)).mono ?_
      rintro e w1 ⟨rfl, hb1⟩
      have c0 := kcell hb1 (show (w.alloc (.cells #[.int .i64 x.it, .int .i64 x.un, .int .i64 x.ch, .int .i64 x.fi, .int .i64 x.la] 45)).cell? ⟨w.heap.size, 0, none⟩ = some (.int .i64 x.it) by simp [go_sem])
      have HB := Lib.hid (up2 (boxed _ _) hb1)
      clear hb1
      go_wp2_with fail
      refine (HP.out _ HB.out).mono ?_
      rintro e w2 ⟨rfl, hb2⟩
      have HB2 := Lib.hid (up2 HB.out hb2)
      clear hb2 c0
      go_wp2_with fail
      go_ret2
      exact ⟨rfl, HB2.out⟩
    · rw [show aloV S x d = tellV (priV S x.it d * x.un) by simp [aloV, hl, q], show aloE S x d = tellE (priV S x.it d * x.un) by simp [aloE, hl, q]]
      rw [if_neg q] at hpe
      unfold PriR at HP
      rw [hpe] at HP
      obtain ⟨v, hv⟩ : ∃ v, v = priV S x.it d := ⟨_, rfl⟩
      rw [← hv] at HP HAm ⊢
      have HPart := Lib.hid (fun W => part_any v x.un 1 W HAm.out.1 HAm.out.2 (by omega) HU.out.2 (by omega) (by omega))
      rw [Int.ediv_one] at HPart
      clear hl hpe hv
      go_enter Try.func14, Try.ntmps14
      go_wp2_with fail
      refine (HT.out _ (boxed _ _)).mono ?_
      rintro e w1 ⟨rfl, hb1⟩
      have c0 := kcell hb1 (show (w.alloc (.cells #[.int .i64 x.it, .int .i64 x.un, .int .i64 x.ch, .int .i64 x.fi, .int .i64 x.la] 45)).cell? ⟨w.heap.size, 0, none⟩ = some (.int .i64 x.it) by simp [go_sem])
      have c1 := kcell hb1 (show (w.alloc (.cells #[.int .i64 x.it, .int .i64 x.un, .int .i64 x.ch, .int .i64 x.fi, .int .i64 x.la] 45)).cell? ⟨w.heap.size, 1, none⟩ = some (.int .i64 x.un) by simp [go_sem])
      have HB := Lib.hid (up2 (boxed _ _) hb1)
      clear hb1
      go_wp2_with fail
      refine (HP.out _ HB.out).mono ?_
      rintro e w2 ⟨rfl, hb2⟩
      have d1 := kcell hb2 c1
      have HB2 := Lib.hid (up2 HB.out hb2)
      clear hb2 c0 c1
      go_wp2_with fail
      refine (HPart.out _).mono ?_
      rintro e w3 ⟨rfl, hb3⟩
      have HB3 := Lib.hid (up2 HB2.out hb3)
      clear hb3 d1
      go_wp2_with fail
      go_ret2
      exact ⟨rfl, HB3.out⟩
end
end Go.Proofs.Ytjmgncjadfhmcaa
