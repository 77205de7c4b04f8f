/- takes, Check, Alone. -/
import Derived.Test.YtklaonoekmhakaaGreatBoD
namespace Go.Proofs.YtklaonoekmhakaaGreat
open Go.RowKit

def Ln.val (x : Ln) : Value := .agg #[.int .i64 x.it, .int .i64 x.un, .int .i64 x.ch, .int .i64 x.fi, .int .i64 x.la]
section
variable {w : World} {p r : Nat} {S : Bs}
set_option maxRecDepth 100000 in
set_option maxHeartbeats 4000000 in
theorem takes_any (x : Ln) (h : Bk w p r S) : Calls Tryz.prog 132 #[.pointer (some ⟨p, 0, none⟩), x.val] w fun e w' => e = .returned (.bool (lnB S x)) ∧ Below w.heap.size w w' := by
  obtain ⟨it, un, ch, fi, la⟩ := x
  have HH := Lib.hid (fun (W : World) (hb : Below w.heap.size w W) => bhas_any it (h.up hb))
  show Calls Tryz.prog 132 #[.pointer (some ⟨p, 0, none⟩), .agg #[.int .i64 it, .int .i64 un, .int .i64 ch, .int .i64 fi, .int .i64 la]] w _
  clear h
  cases hi : hasB S it with
  | false =>
    rw [show lnB S ⟨it, un, ch, fi, la⟩ = false by simp [lnB, hi]]
    rw [hi] at HH
    clear hi
    go_enter Tryz.func132, Tryz.ntmps132
    go_wp2_with fail
    refine (HH.out _ (boxed _ _)).mono ?_
    rintro e w1 ⟨rfl, rfl⟩
    go_wp2_with fail
    go_ret
    exact ⟨rfl, boxed _ _⟩
  | true =>
    by_cases h0 : 1 ≤ un
    · by_cases h1 : 0 ≤ ch
      · by_cases h2 : 1 ≤ fi
        · by_cases h3 : fi ≤ la
          · by_cases h4 : la ≤ 1000000
            · rw [show lnB S ⟨it, un, ch, fi, la⟩ = true by simp [lnB, hi, h0, h1, h2, h3, h4]]
              have e4 : decide (la ≤ 1000000) = true := decide_eq_true h4
              rw [hi] at HH
              clear hi
              go_enter Tryz.func132, Tryz.ntmps132
              go_wp2_with fail
              refine (HH.out _ (boxed _ _)).mono ?_
              rintro e w1 ⟨rfl, rfl⟩
              go_wp2_with fail
              go_ret
              exact ⟨rfl, boxed _ _⟩
            · rw [show lnB S ⟨it, un, ch, fi, la⟩ = false by simp [lnB, hi, h0, h1, h2, h3, h4]]
              have e4 : decide (la ≤ 1000000) = false := decide_eq_false h4
              rw [hi] at HH
              clear hi
              go_enter Tryz.func132, Tryz.ntmps132
              go_wp2_with fail
              refine (HH.out _ (boxed _ _)).mono ?_
              rintro e w1 ⟨rfl, rfl⟩
              go_wp2_with fail
              go_ret
              exact ⟨rfl, boxed _ _⟩
          · rw [show lnB S ⟨it, un, ch, fi, la⟩ = false by simp [lnB, hi, h0, h1, h2, h3]]
            rw [hi] at HH
            clear hi
            go_enter Tryz.func132, Tryz.ntmps132
            go_wp2_with fail
            refine (HH.out _ (boxed _ _)).mono ?_
            rintro e w1 ⟨rfl, rfl⟩
            go_wp2_with fail
            go_ret
            exact ⟨rfl, boxed _ _⟩
        · rw [show lnB S ⟨it, un, ch, fi, la⟩ = false by simp [lnB, hi, h0, h1, h2]]
          rw [hi] at HH
          clear hi
          go_enter Tryz.func132, Tryz.ntmps132
          go_wp2_with fail
          refine (HH.out _ (boxed _ _)).mono ?_
          rintro e w1 ⟨rfl, rfl⟩
          go_wp2_with fail
          go_ret
          exact ⟨rfl, boxed _ _⟩
      · rw [show lnB S ⟨it, un, ch, fi, la⟩ = false by simp [lnB, hi, h0, h1]]
        rw [hi] at HH
        clear hi
        go_enter Tryz.func132, Tryz.ntmps132
        go_wp2_with fail
        refine (HH.out _ (boxed _ _)).mono ?_
        rintro e w1 ⟨rfl, rfl⟩
        go_wp2_with fail
        go_ret
        exact ⟨rfl, boxed _ _⟩
    · rw [show lnB S ⟨it, un, ch, fi, la⟩ = false by simp [lnB, hi, h0]]
      rw [hi] at HH
      clear hi
      go_enter Tryz.func132, Tryz.ntmps132
      go_wp2_with fail
      refine (HH.out _ (boxed _ _)).mono ?_
      rintro e w1 ⟨rfl, rfl⟩
      go_wp2_with fail
      go_ret
      exact ⟨rfl, boxed _ _⟩

theorem ln_at {a : Option Addr} {l : List Ln} (h : LnA w a l) {j : Nat} {x : Ln} (hx : l[j]? = some x) : ∃ b o, a = some ⟨b, o, none⟩ ∧ w.cell? ⟨b, o + j * 5, none⟩ = some (.int .i64 x.it) ∧ w.cell? ⟨b, o + j * 5 + 1, none⟩ = some (.int .i64 x.un) ∧ w.cell? ⟨b, o + j * 5 + 2, none⟩ = some (.int .i64 x.ch) ∧ w.cell? ⟨b, o + j * 5 + 3, none⟩ = some (.int .i64 x.fi) ∧ w.cell? ⟨b, o + j * 5 + 4, none⟩ = some (.int .i64 x.la) := by
  rcases h with z | ⟨b, o, z, hz⟩
  · rw [z] at hx; simp at hx
  · exact ⟨b, o, z, hz j x hx 0 _ rfl, hz j x hx 1 _ rfl, hz j x hx 2 _ rfl, hz j x hx 3 _ rfl, hz j x hx 4 _ rfl⟩
set_option maxRecDepth 100000 in
set_option maxHeartbeats 4000000 in
theorem check_any (a : Option Addr) (cap : Nat) (l : List Ln) (h : Bk w p r S) (hl : LnA w a l) : Calls Tryz.prog 98 #[.pointer (some ⟨p, 0, none⟩), .slice a l.length cap] w fun e w' => e = .returned (.int .i64 (chkE S l)) ∧ Below w.heap.size w w' := by
  obtain ⟨n, hn⟩ : ∃ n, n = l.length := ⟨_, rfl⟩
  have hE : chkE S l = if 12 < n then 4 else if n = 0 then 1 else if l.all (lnB S) = true then 0 else 1 := by rw [hn]; rfl
  rw [hE, ← hn]
  clear hE
  by_cases q1 : 12 < n
  · rw [if_pos q1]
    have q1' : ((12 : Int) < (n : Int)) := by omega
    clear h hl hn
    go_enter Tryz.func98, Tryz.ntmps98
    go_wp2_with fail
    go_ret
    exact ⟨rfl, Below.refl _ _⟩
  · rw [if_neg q1]
    by_cases q2 : n = 0
    · rw [if_pos q2]
      subst q2
      clear h hl hn q1
      go_enter Tryz.func98, Tryz.ntmps98
      go_wp2_with fail
      go_ret
      exact ⟨rfl, Below.refl _ _⟩
    · rw [if_neg q2]
      have hlen : n ≤ 12 := by omega
      have hz : ((n : Int) == 0) = false := by simp; omega
      obtain ⟨E, hE⟩ : ∃ E : Int, E = if l.all (lnB S) = true then 0 else 1 := ⟨_, rfl⟩
      rw [← hE]
      have HE := Lib.hid hE
      have HT := Lib.hid (fun (W : World) (hb : Below w.heap.size w W) (x : Ln) => takes_any x (h.up hb))
      have HL := Lib.hid hl
      have HN := Lib.hid hn
      clear h hl hn q1 q2 hE
      go_enter Tryz.func98, Tryz.ntmps98
      go_wp2_with fail
      go_loopw [15] (fun i wr => ∃ k : Nat, k ≤ n ∧ i = .int .i64 (k : Int) ∧ (∀ t x, t < k → l[t]? = some x → lnB S x = true) ∧ Below w.heap.size w wr) (fun i _ => n - (intOf i).toNat)
      case atStart => exact ⟨0, Nat.zero_le _, rfl, fun t x ht _ => by omega, Below.refl _ _⟩
      case round =>
        obtain ⟨k, hk, rfl, hall, hb⟩ := hrel
        have HA := Lib.hid hall
        have HB := Lib.hid hb
        clear hall hb
        by_cases hlt : k < n
        · obtain ⟨x, hx⟩ : ∃ x, l[k]? = some x := ⟨l[k]'(by rw [← HN.out]; exact hlt), List.getElem?_eq_getElem _⟩
          obtain ⟨b, o, ha, c0, c1, c2, c3, c4⟩ := ln_at (HL.out.up HB.out) hx
          subst ha
          have HX := Lib.hid hx
          clear hx
          go_wp2_with fail
          have hT := HT.out (wr.alloc (.cells #[.int .i64 x.it, .int .i64 x.un, .int .i64 x.ch, .int .i64 x.fi, .int .i64 x.la] 74)) (HB.out.alloc HB.out.size _) x
          unfold Ln.val at hT
          refine hT.mono ?_
          rintro e w1 ⟨rfl, hb1⟩
          have HB1 := Lib.hid ((HB.out.alloc HB.out.size _).trans (hb1.mono (by simp; have := HB.out.size; omega)))
          clear hT hb1 c0 c1 c2 c3 c4
          cases q : lnB S x with
          | true =>
            have HQ := Lib.hid q
            clear q
            go_wp2_with fail
            go_roundw
            case rel =>
              refine ⟨k + 1, by omega, by go_num, fun t y ht hy => ?_, HB1.out⟩
              by_cases z : t = k
              · subst z; rw [HX.out] at hy; obtain rfl := Option.some.inj hy; exact HQ.out
              · exact HA.out t y (by omega) hy
            case measure => simp [intOf]; omega
          | false =>
            have hno : ¬ l.all (lnB S) = true := fun z => by
              have := List.all_eq_true.1 z x (List.mem_of_getElem? HX.out)
              rw [q] at this; cases this
            have hE : E = 1 := by rw [HE.out, if_neg hno]
            subst hE
            clear q hno
            go_wp2_with fail
            go_ret
            exact ⟨rfl, HB1.out⟩
        · have hyes : l.all (lnB S) = true := List.all_eq_true.2 fun x hx => by
            obtain ⟨i, hi⟩ := List.getElem?_of_mem hx
            have := (List.getElem?_eq_some_iff.1 hi).1
            exact HA.out i x (by rw [← HN.out] at this; omega) hi
          have hE : E = 0 := by rw [HE.out, if_pos hyes]
          subst hE
          clear hyes
          go_wp2_with fail
          go_ret
          exact ⟨rfl, HB.out⟩

/-- what a line is worth alone -/
def aloE (S : Bs) (x : Ln) (d : Int) : Int := if lnB S x = false then 1 else if d < 0 then 1 else tellE (priV S x.it d * x.un)
def aloV (S : Bs) (x : Ln) (d : Int) : Int := if lnB S x = false then 0 else if d < 0 then 0 else tellV (priV S x.it d * x.un)
theorem priV_am (F : FineB S) (i d : Int) : Am (priV S i d) := by
  unfold priV
  by_cases h : priE S i d = 0
  · rw [if_pos h]
    obtain ⟨_, h1, _⟩ := best_is S i d
    rcases h1 with h1 | ⟨x, hx, _, _, h1⟩
    · rw [h1]
      show Am (pri0 S i)
      unfold pri0
      cases q : S.I[i.toNat]? with
      | none => exact am_small (by decide) (by decide)
      | some y => exact (F.items y (List.mem_of_getElem? q)).2
    · rw [h1]; exact (F.am x hx).2
  · rw [if_neg h]; exact am_small (by decide) (by decide)
theorem lnB_has {x : Ln} (h : lnB S x = true) : hasB S x.it = true ∧ 1 ≤ x.un := by
  simp [lnB] at h
  exact ⟨h.1.1.1.1.1, h.1.1.1.1.2⟩
theorem priE_ln {x : Ln} (h : lnB S x = true) (d : Int) : priE S x.it d = if d < 0 then 1 else 0 := by
  unfold priE
  rw [if_neg (by rw [(lnB_has h).1]; simp)]
set_option maxRecDepth 100000 in
set_option maxHeartbeats 4000000 in
theorem alone_any (x : Ln) (d : Int) (h : Bk w p r S) (hu : Am x.un) : Calls Tryz.prog 148 #[.pointer (some ⟨p, 0, none⟩), x.val, .int .i64 d] w fun e w' => e = .returned (.tuple #[.int .i64 (aloV S x d), .int .i64 (aloE S x d)]) ∧ Below w.heap.size w w' := by
  have HT := Lib.hid (fun (W : World) (hb : Below w.heap.size w W) => takes_any x (h.up hb))
  have HP := Lib.hid (fun (W : World) (hb : Below w.heap.size w W) => price_any x.it d (h.up hb))
  have HAm := Lib.hid (priV_am h.fine x.it d)
  have HU := Lib.hid hu
  unfold Ln.val at HT ⊢
  clear h hu
  cases hl : lnB S x with
  | false =>
    rw [show aloV S x d = 0 by simp [aloV, hl], show aloE S x d = 1 by simp [aloE, hl]]
    rw [hl] at HT
    clear hl
    go_enter Tryz.func148, Tryz.ntmps148
    go_wp2_with fail
    refine (HT.out _ (boxed _ _)).mono ?_
    rintro e w1 ⟨rfl, hb1⟩
    have HB := Lib.hid (up2 (boxed _ _) hb1)
    clear hb1
    go_wp2_with fail
    go_ret2
    exact ⟨rfl, HB.out⟩
  | true =>
    have hpe := priE_ln hl d
    obtain ⟨_, hu1⟩ := lnB_has hl
    rw [hl] at HT
    by_cases q : d < 0
    · rw [show aloV S x d = 0 by simp [aloV, hl, q], show aloE S x d = 1 by simp [aloE, hl, q]]
      rw [if_pos q] at hpe
      unfold PriR at HP
      rw [hpe] at HP
      clear hl hpe
      go_enter Tryz.func148, Tryz.ntmps148
      go_wp2_with fail
      refine (HT.out _ (boxed _ _)).mono ?_
      rintro e w1 ⟨rfl, hb1⟩
      have c0 := kcell hb1 (show (w.alloc (.cells #[.int .i64 x.it, .int .i64 x.un, .int .i64 x.ch, .int .i64 x.fi, .int .i64 x.la] 74)).cell? ⟨w.heap.size, 0, none⟩ = some (.int .i64 x.it) by simp [go_sem])
      have HB := Lib.hid (up2 (boxed _ _) hb1)
      clear hb1
      go_wp2_with fail
      refine (HP.out _ HB.out).mono ?_
      rintro e w2 ⟨rfl, hb2⟩
      have HB2 := Lib.hid (up2 HB.out hb2)
      clear hb2 c0
      go_wp2_with fail
      go_ret2
      exact ⟨rfl, HB2.out⟩
    · rw [show aloV S x d = tellV (priV S x.it d * x.un) by simp [aloV, hl, q], show aloE S x d = tellE (priV S x.it d * x.un) by simp [aloE, hl, q]]
      rw [if_neg q] at hpe
      unfold PriR at HP
      rw [hpe] at HP
      obtain ⟨v, hv⟩ : ∃ v, v = priV S x.it d := ⟨_, rfl⟩
      rw [← hv] at HP HAm ⊢
      have HPart := Lib.hid (fun W => part_any v x.un 1 W HAm.out.1 HAm.out.2 (by omega) HU.out.2 (by omega) (by omega))
      rw [Int.ediv_one] at HPart
      clear hl hpe hv
      go_enter Tryz.func148, Tryz.ntmps148
      go_wp2_with fail
      refine (HT.out _ (boxed _ _)).mono ?_
      rintro e w1 ⟨rfl, hb1⟩
      have c0 := kcell hb1 (show (w.alloc (.cells #[.int .i64 x.it, .int .i64 x.un, .int .i64 x.ch, .int .i64 x.fi, .int .i64 x.la] 74)).cell? ⟨w.heap.size, 0, none⟩ = some (.int .i64 x.it) by simp [go_sem])
      have c1 := kcell hb1 (show (w.alloc (.cells #[.int .i64 x.it, .int .i64 x.un, .int .i64 x.ch, .int .i64 x.fi, .int .i64 x.la] 74)).cell? ⟨w.heap.size, 1, none⟩ = some (.int .i64 x.un) by simp [go_sem])
      have HB := Lib.hid (up2 (boxed _ _) hb1)
      clear hb1
      go_wp2_with fail
      refine (HP.out _ HB.out).mono ?_
      rintro e w2 ⟨rfl, hb2⟩
      have d1 := kcell hb2 c1
      have HB2 := Lib.hid (up2 HB.out hb2)
      clear hb2 c0 c1
      go_wp2_with fail
      refine (HPart.out _).mono ?_
      rintro e w3 ⟨rfl, hb3⟩
      have HB3 := Lib.hid (up2 HB2.out hb3)
      clear hb3 d1
      go_wp2_with fail
      go_ret2
      exact ⟨rfl, HB3.out⟩
end
end Go.Proofs.YtklaonoekmhakaaGreat

namespace Go.Proofs.YtklaonoekmhakaaGreat
open Go.RowKit

def lnAt (l : List Ln) (k : Nat) : Ln := (l[k]?).getD ⟨0, 0, 0, 0, 0⟩
/-- a line's item -/
def imAt (S : Bs) (x : Ln) : Im := (S.I[x.it.toNat]?).getD ⟨0, 0, 0, 0⟩
/-- lines of one key belong together -/
def dKey (S : Bs) (l : List Ln) (k : Nat) : Int × Int :=
  if (imAt S (lnAt l k)).tag = 1 then (1, (imAt S (lnAt l k)).grp) else if (imAt S (lnAt l k)).tag = 2 then (2, (lnAt l k).it) else (0, (k : Int))
structure Du where
  ls : List Nat
  al : Int
  un : Int
  me : Int
  fi : Int
  la : Int
def duAt (S : Bs) (l : List Ln) (d : Int) (i : Nat) : Du :=
  ⟨mems (dKey S l) l.length i, sumD (fun k => aloV S (lnAt l k) d) (mems (dKey S l) l.length i), sumD (fun k => (lnAt l k).un) (mems (dKey S l) l.length i), (imAt S (lnAt l i)).met,
   minD (fun k => (lnAt l k).fi) i (mems (dKey S l) l.length i), maxD (fun k => (lnAt l k).la) i (mems (dKey S l) l.length i)⟩
def duties (S : Bs) (l : List Ln) (d : Int) : List Du := (fsts (dKey S l) l.length).map (duAt S l d)
def duOver (S : Bs) (l : List Ln) (d : Int) : Bool := (l.any fun x => decide (aloE S x d ≠ 0)) || (duties S l d).any fun x => !am64 x.al || !am64 x.un
def findE (S : Bs) (l : List Ln) (d : Int) : Int := if d < 0 then 1 else if chkE S l ≠ 0 then chkE S l else if duOver S l d = true then 3 else 0
def findV (S : Bs) (l : List Ln) (d : Int) : List Du := if findE S l d = 0 then duties S l d else []

theorem lnAt_some {l : List Ln} {k : Nat} {x : Ln} (h : l[k]? = some x) : lnAt l k = x := by unfold lnAt; rw [h]; rfl
/-- the reference's words on who belongs together -/
def togB (S : Bs) (l : List Ln) (i k : Nat) : Bool :=
  if i = k then true else if (imAt S (lnAt l i)).tag = 1 ∧ (imAt S (lnAt l k)).tag = 1 then decide ((imAt S (lnAt l i)).grp = (imAt S (lnAt l k)).grp) else decide ((imAt S (lnAt l i)).tag = 2) && decide ((lnAt l i).it = (lnAt l k).it)
theorem tog_key (S : Bs) (l : List Ln) (i k : Nat) : togB S l i k = decide (dKey S l k = dKey S l i) := by
  unfold togB
  by_cases hik : i = k
  · subst hik; simp
  · rw [if_neg hik, Bool.eq_iff_iff]
    have hn : ¬ ((k : Int) = (i : Int)) := by omega
    unfold dKey
    by_cases a1 : (imAt S (lnAt l i)).tag = 1
    · by_cases b1 : (imAt S (lnAt l k)).tag = 1
      · rw [if_pos ⟨a1, b1⟩, if_pos a1, if_pos b1]
        simp [eq_comm]
      · rw [if_neg (fun z => b1 z.2), if_pos a1, if_neg b1]
        have : ¬ (imAt S (lnAt l i)).tag = 2 := by omega
        by_cases b2 : (imAt S (lnAt l k)).tag = 2 <;> simp [b2, this]
    · rw [if_neg (fun z => a1 z.1), if_neg a1]
      by_cases a2 : (imAt S (lnAt l i)).tag = 2
      · rw [if_pos a2]
        by_cases e : (lnAt l i).it = (lnAt l k).it
        · have e2 : imAt S (lnAt l k) = imAt S (lnAt l i) := by unfold imAt; rw [e]
          rw [e2, if_neg a1, if_pos a2]
          simp [a2, e]
        · have : ¬ (lnAt l k).it = (lnAt l i).it := fun z => e z.symm
          by_cases b1 : (imAt S (lnAt l k)).tag = 1
          · rw [if_pos b1]; simp [e]
          · rw [if_neg b1]
            by_cases b2 : (imAt S (lnAt l k)).tag = 2
            · rw [if_pos b2]; simp [e, this]
            · rw [if_neg b2]; simp [e]
      · rw [if_neg a2]
        by_cases b1 : (imAt S (lnAt l k)).tag = 1
        · rw [if_pos b1]; simp [a2]
        · rw [if_neg b1]
          by_cases b2 : (imAt S (lnAt l k)).tag = 2
          · rw [if_pos b2]; simp [a2]
          · rw [if_neg b2]; simp [a2, hn]

end Go.Proofs.YtklaonoekmhakaaGreat

namespace Go.Proofs.YtklaonoekmhakaaGreat
open Go.RowKit

/-- are two the same, but for places and method? -/
def oneB (a b : Du) : Bool := decide (a.al = b.al) && decide (a.un = b.un) && decide (a.fi = b.fi) && decide (a.la = b.la) && decide (a.ls.length = b.ls.length)
/-- does the second end where the first begins, turned about, and is it the same? -/
def meetB (n : Nat) (a b : Du) : Bool := decide (b.ls.getLast? = (a.ls.head?).map fun k => n - 1 - k) && oneB a b
end Go.Proofs.YtklaonoekmhakaaGreat

namespace Go.Proofs.YtklaonoekmhakaaGreat
open Go.RowKit

def natV (k : Nat) : Value := .int .i64 (k : Int)
def natC (k : Nat) : List Value := [natV k]
/-- places that lie in a row -/
abbrev NsA (w : World) (a : Option Addr) (l : List Nat) : Prop := Rws natC 1 w a l
theorem nat_len (k : Nat) : (natC k).length = 1 := rfl
theorem nat_flat (l : List Nat) : l.flatMap natC = l.map natV := by
  induction l with
  | nil => rfl
  | cons x l ih => rw [List.flatMap_cons, List.map_cons, ih]; rfl
theorem ns_at {w : World} {a : Option Addr} {l : List Nat} (h : NsA w a l) {j k : Nat} (hx : l[j]? = some k) : ∃ b o, a = some ⟨b, o, none⟩ ∧ w.cell? ⟨b, o + j, none⟩ = some (.int .i64 (k : Int)) := by
  rcases h with h | ⟨b, o, e, h⟩
  · rw [h] at hx; simp at hx
  · refine ⟨b, o, e, ?_⟩
    have := h j k hx 0 _ rfl
    rwa [Nat.mul_one, Nat.add_zero] at this
/-- a row of places; rows of such -/
structure NsX where
  a : Option Addr
  cap : Nat
  l : List Nat
def NsX.val (x : NsX) : Value := .slice x.a x.l.length x.cap
def NsX.cells (x : NsX) : List Value := [x.val]
def RowsA (w : World) (a : Option Addr) (X : List NsX) : Prop := Rws NsX.cells 1 w a X ∧ ∀ x ∈ X, NsA w x.a x.l
theorem RowsA.up {w w' : World} {a : Option Addr} {X : List NsX} (h : RowsA w a X) (q : Below w.heap.size w w') : RowsA w' a X := ⟨h.1.up q, fun x hx => (h.2 x hx).up q⟩
theorem rows_at {w : World} {a : Option Addr} {X : List NsX} (h : RowsA w a X) {j : Nat} {x : NsX} (hx : X[j]? = some x) : ∃ b o, a = some ⟨b, o, none⟩ ∧ w.cell? ⟨b, o + j, none⟩ = some x.val := by
  rcases h.1 with h | ⟨b, o, e, h⟩
  · rw [h] at hx; simp at hx
  · refine ⟨b, o, e, ?_⟩
    have := h j x hx 0 _ rfl
    rwa [Nat.mul_one, Nat.add_zero] at this
/-- an obligation in memory -/
structure DuX where
  a : Option Addr
  cap : Nat
  d : Du
def DuX.cells (x : DuX) : List Value := [.slice x.a x.d.ls.length x.cap, .int .i64 x.d.al, .int .i64 x.d.un, .int .i64 x.d.me, .int .i64 x.d.fi, .int .i64 x.d.la]
def DuX.val (x : DuX) : Value := .agg #[.slice x.a x.d.ls.length x.cap, .int .i64 x.d.al, .int .i64 x.d.un, .int .i64 x.d.me, .int .i64 x.d.fi, .int .i64 x.d.la]
theorem du_len (x : DuX) : x.cells.length = 6 := rfl
def DusA (w : World) (a : Option Addr) (X : List DuX) : Prop := Rws DuX.cells 6 w a X ∧ ∀ x ∈ X, NsA w x.a x.d.ls
theorem DusA.up {w w' : World} {a : Option Addr} {X : List DuX} (h : DusA w a X) (q : Below w.heap.size w w') : DusA w' a X := ⟨h.1.up q, fun x hx => (h.2 x hx).up q⟩
theorem dus_at {w : World} {a : Option Addr} {X : List DuX} (h : DusA w a X) {j : Nat} {x : DuX} (hx : X[j]? = some x) : ∃ b o, a = some ⟨b, o, none⟩ ∧ w.cell? ⟨b, o + j * 6, none⟩ = some (.slice x.a x.d.ls.length x.cap) ∧ w.cell? ⟨b, o + j * 6 + 1, none⟩ = some (.int .i64 x.d.al) ∧ w.cell? ⟨b, o + j * 6 + 2, none⟩ = some (.int .i64 x.d.un) ∧ w.cell? ⟨b, o + j * 6 + 3, none⟩ = some (.int .i64 x.d.me) ∧ w.cell? ⟨b, o + j * 6 + 4, none⟩ = some (.int .i64 x.d.fi) ∧ w.cell? ⟨b, o + j * 6 + 5, none⟩ = some (.int .i64 x.d.la) ∧ NsA w x.a x.d.ls := by
  rcases h with ⟨h1 | ⟨b, o, e, h1⟩, h2⟩
  · rw [h1] at hx; simp at hx
  · exact ⟨b, o, e, h1 j x hx 0 _ rfl, h1 j x hx 1 _ rfl, h1 j x hx 2 _ rfl, h1 j x hx 3 _ rfl, h1 j x hx 4 _ rfl, h1 j x hx 5 _ rfl, h2 x (List.mem_of_getElem? hx)⟩

section
variable {κ : Type} [DecidableEq κ] {K : Nat → κ}
theorem mems_step (k i : Nat) : mems K (k + 1) i = mems K k i ++ if K k = K i then [k] else [] := by
  unfold mems
  rw [List.range_succ, List.filter_append]
  by_cases q : K k = K i <;> simp [q]
theorem fsts_step (k : Nat) : fsts K (k + 1) = fsts K k ++ if isFst K k = true then [k] else [] := by
  unfold fsts
  rw [List.range_succ, List.filter_append]
  by_cases q : isFst K k = true
  · simp [q]
  · rw [if_neg q]; simp [q]
/-- the first place of a key, or how many there are -/
def idxK (q : κ) : List κ → Nat
  | [] => 0
  | x :: l => if x = q then 0 else idxK q l + 1
theorem idxK_none {q : κ} : ∀ {l : List κ}, q ∉ l → idxK q l = l.length
  | [], _ => rfl
  | x :: l, h => by
    have h1 : ¬ x = q := fun e => h (by simp [e])
    unfold idxK
    rw [if_neg h1, idxK_none fun z => h (List.mem_cons_of_mem _ z)]; rfl
theorem idxK_some {q : κ} : ∀ {l : List κ}, q ∈ l → l[idxK q l]? = some q
  | [], h => by cases h
  | x :: l, h => by
    unfold idxK
    by_cases e : x = q
    · rw [if_pos e, e]; rfl
    · rw [if_neg e]
      rcases List.mem_cons.1 h with z | z
      · exact absurd z.symm e
      · simpa using idxK_some z
theorem idxK_at {q : κ} : ∀ {l : List κ} {k : Nat}, l[k]? = some q → (∀ j x, j < k → l[j]? = some x → x ≠ q) → idxK q l = k
  | [], k, h, _ => by simp at h
  | x :: l, 0, h, _ => by
    have : x = q := by simpa using h
    unfold idxK; rw [if_pos this]
  | x :: l, k + 1, h, hl => by
    unfold idxK
    rw [if_neg (hl 0 x (by omega) rfl), idxK_at (k := k) (by simpa using h) fun j y hj hy => hl (j + 1) y (by omega) (by simpa using hy)]
theorem idxK_all {q : κ} {l : List κ} (h : ∀ j x, j < l.length → l[j]? = some x → x ≠ q) : idxK q l = l.length := idxK_none fun hm => by
  obtain ⟨j, hj⟩ := List.getElem?_of_mem hm
  exact h j q (List.getElem?_eq_some_iff.1 hj).1 hj rfl
/-- the keys so far, and the places of each -/
def keysTo (K : Nat → κ) (k : Nat) : List κ := (fsts K k).map K
def groups (K : Nat → κ) (k : Nat) : List (List Nat) := (fsts K k).map (mems K k)
theorem groups_len (k : Nat) : (groups K k).length = (keysTo K k).length := by unfold groups keysTo; simp
theorem idx_new {k : Nat} (h : isFst K k = true) : idxK (K k) (keysTo K k) = (keysTo K k).length := by
  refine idxK_none fun hm => ?_
  obtain ⟨i, hi, e⟩ := List.mem_map.1 hm
  exact isFst_iff.1 h i (mem_fsts.1 hi).1 e
theorem keys_new {k : Nat} (h : isFst K k = true) : keysTo K (k + 1) = keysTo K k ++ [K k] := by
  unfold keysTo; rw [fsts_step, if_pos h, List.map_append]; rfl
theorem keys_old {k : Nat} (h : ¬ isFst K k = true) : keysTo K (k + 1) = keysTo K k := by
  unfold keysTo; rw [fsts_step, if_neg h, List.append_nil]
theorem groups_new {k : Nat} (h : isFst K k = true) : groups K (k + 1) = groups K k ++ [[k]] := by
  have h0 := isFst_iff.1 h
  unfold groups
  rw [fsts_step, if_pos h, List.map_append]
  congr 1
  · apply List.map_congr_left
    intro i hi
    rw [mems_step, if_neg (fun e => h0 i (mem_fsts.1 hi).1 e.symm), List.append_nil]
  · rw [List.map_singleton, mems_step, if_pos rfl]
    have hnil : mems K k k = [] := List.eq_nil_iff_forall_not_mem.2 fun j hj => h0 j (mem_mems.1 hj).1 (mem_mems.1 hj).2
    rw [hnil]; rfl
theorem idx_old {k : Nat} (h : ¬ isFst K k = true) : ∃ t i, idxK (K k) (keysTo K k) = t ∧ t < (keysTo K k).length ∧ (fsts K k)[t]? = some i ∧ K i = K k := by
  have hm : K k ∈ keysTo K k := by
    obtain ⟨i, h1, h2, h3⟩ := fst_of (K := K) k
    have hne : i ≠ k := fun e => h (isFst_iff.2 (by rw [← e]; exact h3))
    exact List.mem_map.2 ⟨i, mem_fsts.2 ⟨by omega, h3⟩, h2⟩
  have hs := idxK_some hm
  have hs2 := hs
  unfold keysTo at hs2
  rw [List.getElem?_map] at hs2
  obtain ⟨i, hi, e⟩ := Option.map_eq_some_iff.1 hs2
  exact ⟨_, i, rfl, (List.getElem?_eq_some_iff.1 hs).1, hi, e⟩
theorem groups_old {k t i : Nat} (h : ¬ isFst K k = true) (ht : (fsts K k)[t]? = some i) (e : K i = K k) : groups K (k + 1) = (groups K k).set t (mems K k i ++ [k]) := by
  unfold groups
  rw [fsts_step, if_neg h, List.append_nil]
  have hi := List.mem_of_getElem? ht
  apply List.ext_getElem?
  intro j
  rw [List.getElem?_set]
  by_cases q : t = j
  · subst q
    have hlt := (List.getElem?_eq_some_iff.1 ht).1
    rw [if_pos rfl, if_pos (by simpa using hlt), List.getElem?_map, ht, Option.map_some, mems_step, if_pos e.symm]
  · rw [if_neg q, List.getElem?_map, List.getElem?_map]
    cases hj : (fsts K k)[j]? with
    | none => rfl
    | some i2 =>
      rw [Option.map_some, Option.map_some, mems_step, if_neg, List.append_nil]
      intro z
      have e2 := fst_one hi (List.mem_of_getElem? hj) (e.trans z)
      obtain ⟨h1, h1'⟩ := List.getElem?_eq_some_iff.1 ht
      obtain ⟨h2, h2'⟩ := List.getElem?_eq_some_iff.1 hj
      have hn : (fsts K k).Pairwise (· < ·) := fsts_asc
      rw [List.pairwise_iff_getElem] at hn
      rcases Nat.lt_or_gt_of_ne q with z | z
      · have := hn t j h1 h2 z; omega
      · have := hn j t h2 h1 z; omega
end
end Go.Proofs.YtklaonoekmhakaaGreat
