/- The reference's Charge. -/
import Derived.Test.YtklaonoekmhakaaGreatDvD
import Derived.Test.YtklaonoekmhakaaGreatBqA
namespace Go.Proofs.YtklaonoekmhakaaGreat
open Go.RowKit

set_option maxRecDepth 100000 in
set_option maxHeartbeats 2000000 in
theorem qcharge_any (a : Option Addr) (cap : Nat) (l : List Ln) (w : World) (hl : LnA w a l) (hn : l.length ≤ 1000) (hAm : ∀ x ∈ l, Am x.ch) : Calls Tryz.prog 72 #[.slice a l.length cap] w (ChR w l) := by
  have hf : Amounts (chF l) := fun k => lnAt_mem (P := fun x => Am x.ch) hAm (am_small (by decide) (by decide)) k
  have HF := Lib.hid hf
  have HL := Lib.hid hl
  obtain ⟨n, hnn⟩ : ∃ n, n = l.length := ⟨_, rfl⟩
  have HN := Lib.hid hnn
  unfold ChR
  rw [← hnn] at hn ⊢
  have HT := Lib.hid (SmX.start w)
  clear hf hl hAm hnn
  go_enter Tryz.func72, Tryz.ntmps72
  go_wp2_with fail
  obtain ⟨W0, hW0⟩ : ∃ W0, W0 = w.alloc (.cells #[.int .i64 0, .slice none 0 0] 135) := ⟨_, rfl⟩
  have HB0 : Hid (Below w.heap.size w W0) := by rw [hW0]; exact boxed _ _
  rw [← hW0] at HT
  rw [← hW0]
  clear hW0
  go_loopw [5] (fun i wr => ∃ k : Nat, k ≤ n ∧ i = .int .i64 (k : Int) ∧ (∃ s a2 l2 c2, SmX wr w.heap.size (sumTo (chF l) k) s a2 l2 c2) ∧ Below w.heap.size w wr) (fun i _ => n - (intOf i).toNat)
  case atStart => exact ⟨0, Nat.zero_le _, rfl, ⟨_, _, _, _, HT.out⟩, HB0.out⟩
  case round =>
    obtain ⟨k, hk, rfl, ⟨s, a2, l2, c2, hT⟩, hb⟩ := hrel
    have HS := Lib.hid hT
    have HB := Lib.hid hb
    clear hT hb
    obtain ⟨c0, c1, e0, e1⟩ := HS.out.row
    by_cases hlt : k < n
    · obtain ⟨x, hx⟩ : ∃ x, l[k]? = some x := ⟨l[k]'(by rw [← HN.out]; exact hlt), List.getElem?_eq_getElem _⟩
      obtain ⟨b, o, ha, _, _, z2, _, _⟩ := ln_at (HL.out.up HB.out) hx
      subst ha
      have hcx : chF l k = x.ch := by unfold chF; rw [lnAt_some hx]
      have hf := HF.out k
      rw [hcx] at hf
      obtain ⟨f1, f2⟩ := hf
      have HC : Hid (sumTo (chF l) (k + 1) = sumTo (chF l) k + x.ch) := by rw [← hcx]; exact Lib.hid rfl
      have hk0 : (0 : Int) ≤ (k : Int) := by omega
      have hk1 : (k : Int) < (n : Int) := by omega
      have hw1 : IntKind.i64.wrap ((k : Int) + 1) = (k : Int) + 1 := IntWalk.i64_in _ (by omega)
      have HSm := Lib.hid (sum_small HF.out (k := k) (by omega))
      clear hx hcx
      go_wp2_with fail
      go_region_with (first | (go_at_call 77; ((with_reducible refine (of_any x.ch _ f1 f2).mono ?_); rintro e' w1 ⟨s1, a1, n1, p1, rfl, hE1, hb1⟩; have kT1 := Lib.hid (HS.out.drew.up hb1); have kE1 := Lib.hid hE1; have kB1 := Lib.hid (up2 HB.out.drew hb1); clear hE1 hb1; obtain ⟨x0, x1, y0, y1⟩ := kT1.out.row)) | (go_at_call 76; ((with_reducible refine (plus_ex s s1 (sumTo (chF l) k) x.ch a2 a1 l2 n1 c2 p1 _ kT1.out.ex kE1.out HSm.out (small64 f1 f2)).mono ?_); rintro e' w2 ⟨s2, a3, n2, p2, rfl, hE2, hb2⟩; have kT2 := Lib.hid (kT1.out.up hb2); have kE2 := Lib.hid hE2; have kB2 := Lib.hid (up2 kB1.out hb2); clear hE2 hb2; obtain ⟨u2, u3, v2, v3⟩ := kT2.out.row)))
      all_goals
        go_wp2_with fail
        go_roundw
        case rel =>
          refine ⟨k + 1, by omega, by go_num, ⟨s2, a3, n2, p2, ?_⟩, (kB2.out.setCell (Nat.le_refl _) _).setCell (Nat.le_refl _) _⟩
          rw [HC.out]; exact kT2.out.put kE2.out
        case measure => simp [intOf]; omega
    · obtain rfl : k = n := by omega
      have HFt := Lib.hid (fit_any s (sumTo (chF l) k) a2 l2 c2 wr HS.out.ex (sum_small HF.out (by omega)))
      go_wp2_with fail
      refine HFt.out.mono ?_
      rintro e w2 ⟨rfl, hb2⟩
      have HB2 := Lib.hid (up2 HB.out hb2)
      clear hb2
      go_wp2_with fail
      go_ret2
      exact ⟨rfl, HB2.out⟩
end Go.Proofs.YtklaonoekmhakaaGreat

namespace Go.Proofs.YtklaonoekmhakaaGreat
open Go.RowKit

/-- Find told -/
structure Tol (S : Bs) (l : List Ln) (d : Int) : Prop where
  day : 0 ≤ d
  few : l.length ≤ 12
  pos : 0 < l.length
  fine : ∀ x ∈ l, lnB S x = true
  alo : ∀ x ∈ l, aloE S x d = 0
  am : ∀ i ∈ fsts (dKey S l) l.length, Am (duAt S l d i).al ∧ Am (duAt S l d i).un
/-- how often a place was seen -/
def one1D (a k : Nat) : Int := if k = a then 1 else 0
def cntT (K : Nat → Kk) (n t a : Nat) : Int := sumD (fun i => sumD (one1D a) (mems K n i)) ((fsts K n).take t)
theorem mems_le (K : Nat → Kk) (n i : Nat) : (mems K n i).length ≤ n := by
  have := List.length_filter_le (fun j => decide (K j = K i)) (List.range n)
  rw [List.length_range] at this; exact this
theorem fsts_le (K : Nat → Kk) (n : Nat) : (fsts K n).length ≤ n := by
  have := List.length_filter_le (isFst K) (List.range n)
  rw [List.length_range] at this; exact this
/-- a row of counters -/
def seenC (n : Nat) (c : Nat → Int) : List Value := (List.range n).map fun a => .int .i64 (c a)
theorem seen_get {n a : Nat} (c : Nat → Int) (h : a < n) : (seenC n c)[a]? = some (.int .i64 (c a)) := by
  unfold seenC
  rw [List.getElem?_map, List.getElem?_range h]; rfl
theorem seen_set {n k : Nat} {c c' : Nat → Int} (h : ∀ a, c' a = if a = k then c a + 1 else c a) : (seenC n c).set k (.int .i64 (c k + 1)) = seenC n c' := by
  unfold seenC
  apply List.ext_getElem?
  intro j
  rw [List.getElem?_set, List.length_map, List.length_range]
  by_cases q : k = j
  · subst q
    rw [if_pos rfl]
    by_cases p : k < n
    · rw [if_pos p, List.getElem?_map, List.getElem?_range p, Option.map_some, h, if_pos rfl]
    · rw [if_neg p, List.getElem?_map, List.getElem?_eq_none (by simpa using p)]; rfl
  · rw [if_neg q, List.getElem?_map, List.getElem?_map]
    by_cases p : j < n
    · rw [List.getElem?_range p, Option.map_some, Option.map_some, h, if_neg (fun e => q e.symm)]
    · rw [List.getElem?_eq_none (by simpa using p)]; rfl
def i64C (k : Int) : List Value := [.int .i64 k]
/-- rows of DutyEach's own: counters, two rows of numbers -/
def eaL (g n : Nat) (c : Nat → Int) (v1 : Value) (z1 : List Int) (v2 : Value) (z2 : List Int) : List Ob :=
  [⟨3, 1, .slice (some ⟨g, 0, none⟩) n n, n, seenC n c⟩, ⟨2, 1, v1, z1.length, z1.flatMap i64C⟩, ⟨2, 1, v2, z2.length, z2.flatMap i64C⟩]
structure EaS (w0 w : World) (g n : Nat) (c : Nat → Int) (v1 : Value) (z1 : List Int) (v2 : Value) (z2 : List Int) : Prop where
  own : OwL w w0.heap.size (eaL g n c v1 z1 v2 z2)
  bel : Below w0.heap.size w0 w
section
variable {w0 w w' : World} {g n : Nat} {c : Nat → Int} {v1 v2 : Value} {z1 z2 : List Int}
theorem EaS.up (h : EaS w0 w g n c v1 z1 v2 z2) (q : Below w.heap.size w w') : EaS w0 w' g n c v1 z1 v2 z2 := ⟨h.own.up q, up2 h.bel q⟩
theorem EaS.drew (h : EaS w0 w g n c v1 z1 v2 z2) : EaS w0 w.drew g n c v1 z1 v2 z2 := h.up (Below.refl _ _).drew
theorem EaS.cell (h : EaS w0 w g n c v1 z1 v2 z2) {a : Nat} (ha : a < n) : w.cell? ⟨g, a, none⟩ = some (.int .i64 (c a)) ∧ w.frozen? ⟨g, a, none⟩ = false := by
  have ho := h.own.own 0 _ rfl
  refine ⟨?_, World.ownsRow.frozenAt ho a⟩
  rw [World.ownsRow.cellAt ho a (by simpa using ha)]
  exact seen_get c ha
theorem EaS.lt (h : EaS w0 w g n c v1 z1 v2 z2) : w0.heap.size ≤ g ∧ g < w.heap.size := (h.own.own 0 _ rfl).lt g rfl
theorem EaS.count (h : EaS w0 w g n c v1 z1 v2 z2) {k : Nat} {c' : Nat → Int} (hc : ∀ a, c' a = if a = k then c a + 1 else c a) : EaS w0 (w.setCell ⟨g, k, none⟩ (.int .i64 (c k + 1))) g n c' v1 z1 v2 z2 := by
  have h1 := h.own.store (i := 0) (T := 3) (z := 1) (g := g) (n := n) (cap := n) (xs := seenC n c) rfl k (.int .i64 (c k + 1))
  rw [seen_set hc] at h1
  exact ⟨h1, h.bel.setCell h.lt.1 _⟩
theorem EaS.app1 (h : EaS w0 w g n c v1 z1 v2 z2) (hn : z1.length ≤ 1000) (x : Int) {y : Nat} (hy : w.cell? ⟨y, 0, none⟩ = some (.int .i64 x)) :
    ∃ v w5, (Builtin.append_ #[64, 64] 64 #[v1, .slice (some ⟨y, 0, none⟩) 1 1]).run Tryz.prog w = .ok v w5 ∧ EaS w0 w5 g n c v (z1 ++ [x]) v2 z2 ∧ w.grownBy w5 v1.ownBlock := by
  obtain ⟨v, w5, hr, ho, hb, hs, _, hg⟩ := h.own.app2 (i := 1) rfl (t := 64) (ty := 64) Tryz.underlying64 infoI64d rfl (Nat.zero_lt_succ _) (by decide) (i64C x) rfl (ad := ⟨y, 0, none⟩) (fun j u hu => by
    match j, hu with
    | 0, hu => simp [i64C] at hu; rw [addr_off, Nat.zero_add, ← hu]; exact hy) (fun u hu => by simp [i64C] at hu; rw [hu]; rfl) (by simp only; omega) h.bel (Nat.le_refl _) h.bel.size
  refine ⟨v, w5, hr, ⟨?_, hb⟩, hg⟩
  have e : (eaL g n c v1 z1 v2 z2).set 1 ⟨2, 1, v, z1.length + 1, z1.flatMap i64C ++ i64C x⟩ = eaL g n c v (z1 ++ [x]) v2 z2 := by
    unfold eaL
    rw [List.set_cons_succ, List.set_cons_zero, List.flatMap_append, List.length_append]; rfl
  rw [← e]; exact ho
theorem EaS.app2 (h : EaS w0 w g n c v1 z1 v2 z2) (hn : z2.length ≤ 1000) (x : Int) {y : Nat} (hy : w.cell? ⟨y, 0, none⟩ = some (.int .i64 x)) :
    ∃ v w5, (Builtin.append_ #[64, 64] 64 #[v2, .slice (some ⟨y, 0, none⟩) 1 1]).run Tryz.prog w = .ok v w5 ∧ EaS w0 w5 g n c v1 z1 v (z2 ++ [x]) ∧ w.grownBy w5 v2.ownBlock := by
  obtain ⟨v, w5, hr, ho, hb, hs, _, hg⟩ := h.own.app2 (i := 2) rfl (t := 64) (ty := 64) Tryz.underlying64 infoI64d rfl (Nat.zero_lt_succ _) (by decide) (i64C x) rfl (ad := ⟨y, 0, none⟩) (fun j u hu => by
    match j, hu with
    | 0, hu => simp [i64C] at hu; rw [addr_off, Nat.zero_add, ← hu]; exact hy) (fun u hu => by simp [i64C] at hu; rw [hu]; rfl) (by simp only; omega) h.bel (Nat.le_refl _) h.bel.size
  refine ⟨v, w5, hr, ⟨?_, hb⟩, hg⟩
  have e : (eaL g n c v1 z1 v2 z2).set 2 ⟨2, 1, v, z2.length + 1, z2.flatMap i64C ++ i64C x⟩ = eaL g n c v1 z1 v (z2 ++ [x]) := by
    unfold eaL
    rw [List.set_cons_succ, List.set_cons_succ, List.set_cons_zero, List.flatMap_append, List.length_append]; rfl
  rw [← e]; exact ho
/-- a box of another type is none of them -/
theorem EaS.box (h : EaS w0 w g n c v1 z1 v2 z2) {b T : Nat} {cs : Array Value} (hh : Has w b T cs) (hT : T ≠ 2) : v1.ownBlock ≠ some b ∧ v2.ownBlock ≠ some b := by
  have key : ∀ (i : Nat) (v : Value) (m : Nat) (xs : List Value), (eaL g n c v1 z1 v2 z2)[i]? = some ⟨2, 1, v, m, xs⟩ → v.ownBlock ≠ some b := fun i v m xs hi e => by
    rcases (h.own.own i _ hi).2 with ⟨e1, _⟩ | ⟨g', cp, cur, e1, _, e2, _⟩
    · have e1 : v = .slice none 0 0 := e1
      rw [e1] at e; cases e
    · have e1 : v = .slice (some ⟨g', 0, none⟩) m cp := e1
      rw [e1] at e
      injection e with e
      have e : g' = b := e
      subst e
      unfold Has at hh
      rw [hh] at e2
      injection e2 with e2
      injection e2 with _ e3
      exact hT e3
  exact ⟨key 1 _ _ _ rfl, key 2 _ _ _ rfl⟩
/-- what an append leaves: the rows, a box, what was made beside -/
structure RunS (w0 w W : World) (g n : Nat) (c : Nat → Int) (b T : Nat) (cs : Array Value) (v1 : Value) (z1 : List Int) (v2 : Value) (z2 : List Int) (w' : World) : Prop where
  ea : EaS w0 w' g n c v1 z1 v2 z2
  box : Has w' b T cs
  keep : ∀ k i u, w.heap.size ≤ k → W.cell? ⟨k, i, none⟩ = some u → w'.cell? ⟨k, i, none⟩ = some u
/-- two cells of a box -/
def BxC (b i j : Nat) (x y : Int) (w : World) : Prop := w.cell? ⟨b, i, none⟩ = some (.int .i64 x) ∧ w.cell? ⟨b, j, none⟩ = some (.int .i64 y)
end
end Go.Proofs.YtklaonoekmhakaaGreat

namespace Go.Proofs.YtklaonoekmhakaaGreat
open Go.RowKit

/-- an obligation on its way: its box, its places, two sums in boxes -/
structure FqS (wb W : World) (bd ba bu : Nat) (vl : Value) (ks : List Nat) (d1 d2 me mi ma : Int) (va sa : Int) (aa : Option Addr) (la ca : Nat) (vu su : Int) (au : Option Addr) (lu cu : Nat) : Prop where
  bel : Below wb.heap.size wb W
  d : Has W bd 51 #[vl, .int .i64 d1, .int .i64 d2, .int .i64 me, .int .i64 mi, .int .i64 ma]
  row : ZRow W wb.heap.size vl ks
  al : SmX W ba va sa aa la ca
  un : SmX W bu vu su au lu cu
  lo : wb.heap.size ≤ bd ∧ wb.heap.size ≤ ba ∧ wb.heap.size ≤ bu ∧ ba ≠ bu
section
variable {wb W W' : World} {bd ba bu : Nat} {vl : Value} {ks : List Nat} {d1 d2 me mi ma va sa vu su : Int} {aa au : Option Addr} {la ca lu cu : Nat}
theorem FqS.up (h : FqS wb W bd ba bu vl ks d1 d2 me mi ma va sa aa la ca vu su au lu cu) (q : Below W.heap.size W W') : FqS wb W' bd ba bu vl ks d1 d2 me mi ma va sa aa la ca vu su au lu cu :=
  ⟨up2 h.bel q, h.d.up q, h.row.up q, h.al.up q, h.un.up q, h.lo⟩
theorem FqS.drew (h : FqS wb W bd ba bu vl ks d1 d2 me mi ma va sa aa la ca vu su au lu cu) : FqS wb W.drew bd ba bu vl ks d1 d2 me mi ma va sa aa la ca vu su au lu cu := h.up (Below.refl _ _).drew
theorem FqS.nes (h : FqS wb W bd ba bu vl ks d1 d2 me mi ma va sa aa la ca vu su au lu cu) : bd ≠ ba ∧ bd ≠ bu := ⟨h.d.ne h.al.has (by decide), h.d.ne h.un.has (by decide)⟩
theorem FqS.putA (h : FqS wb W bd ba bu vl ks d1 d2 me mi ma va sa aa la ca vu su au lu cu) {t m : Int} {a2 : Option Addr} {l2 c2 : Nat} (hE : Ex W t a2 l2 c2 m) :
    FqS wb ((W.setCell ⟨ba, 0, none⟩ (.int .i64 t)).setCell ⟨ba, 1, none⟩ (.slice a2 l2 c2)) bd ba bu vl ks d1 d2 me mi ma m t a2 l2 c2 vu su au lu cu := by
  obtain ⟨n1, n2⟩ := h.nes
  obtain ⟨o1, o2, o3, o4⟩ := h.lo
  have h1 := h.al.has.put 0 (.int .i64 t)
  exact ⟨(h.bel.setCell o2 _).setCell o2 _, (h.d.off (p := ⟨ba, 0, none⟩) n1 _).off (p := ⟨ba, 1, none⟩) n1 _, (h.row.off h.al.has (by decide) 0 _).off h1 (by decide) 1 _, h.al.put hE,
    (h.un.off h.al.has (by decide) (Ne.symm o4) 0 _).off h1 (by decide) (Ne.symm o4) 1 _, h.lo⟩
theorem FqS.putU (h : FqS wb W bd ba bu vl ks d1 d2 me mi ma va sa aa la ca vu su au lu cu) {t m : Int} {a2 : Option Addr} {l2 c2 : Nat} (hE : Ex W t a2 l2 c2 m) :
    FqS wb ((W.setCell ⟨bu, 0, none⟩ (.int .i64 t)).setCell ⟨bu, 1, none⟩ (.slice a2 l2 c2)) bd ba bu vl ks d1 d2 me mi ma va sa aa la ca m t a2 l2 c2 := by
  obtain ⟨n1, n2⟩ := h.nes
  obtain ⟨o1, o2, o3, o4⟩ := h.lo
  have h1 := h.un.has.put 0 (.int .i64 t)
  exact ⟨(h.bel.setCell o3 _).setCell o3 _, (h.d.off (p := ⟨bu, 0, none⟩) n2 _).off (p := ⟨bu, 1, none⟩) n2 _, (h.row.off h.un.has (by decide) 0 _).off h1 (by decide) 1 _,
    (h.al.off h.un.has (by decide) o4 0 _).off h1 (by decide) o4 1 _, h.un.put hE, h.lo⟩
/-- a store into the obligation's box -/
theorem FqS.putD (h : FqS wb W bd ba bu vl ks d1 d2 me mi ma va sa aa la ca vu su au lu cu) (i : Nat) (u : Value) {d1' d2' mi' ma' : Int}
    (he : (#[vl, .int .i64 d1, .int .i64 d2, .int .i64 me, .int .i64 mi, .int .i64 ma] : Array Value).setIfInBounds i u = #[vl, .int .i64 d1', .int .i64 d2', .int .i64 me, .int .i64 mi', .int .i64 ma']) :
    FqS wb (W.setCell ⟨bd, i, none⟩ u) bd ba bu vl ks d1' d2' me mi' ma' va sa aa la ca vu su au lu cu := by
  obtain ⟨n1, n2⟩ := h.nes
  obtain ⟨o1, o2, o3, o4⟩ := h.lo
  have h1 := h.d.put i u
  rw [he] at h1
  exact ⟨h.bel.setCell o1 _, h1, h.row.off h.d (by decide) i u, h.al.off h.d (by decide) (Ne.symm n1) i u, h.un.off h.d (by decide) (Ne.symm n2) i u, h.lo⟩
/-- one more place -/
theorem FqS.putL (h : FqS wb W bd ba bu vl ks d1 d2 me mi ma va sa aa la ca vu su au lu cu) (hk : ks.length ≤ 1000) {k y : Nat} (hy : Has W y 3 #[.int .i64 (k : Int)]) :
    ∃ a8 c8 w5, (Builtin.append_ #[49, 49] 49 #[vl, .slice (some ⟨y, 0, none⟩) 1 1]).run Tryz.prog W = .ok (.slice a8 (ks.length + 1) c8) w5 ∧ w5.cell? ⟨bd, 0, none⟩ = some vl ∧ w5.frozen? ⟨bd, 0, none⟩ = false ∧
      FqS wb (w5.setCell ⟨bd, 0, none⟩ (.slice a8 (ks.length + 1) c8)) bd ba bu (.slice a8 (ks.length + 1) c8) (ks ++ [k]) d1 d2 me mi ma va sa aa la ca vu su au lu cu := by
  obtain ⟨n1, n2⟩ := h.nes
  obtain ⟨o1, o2, o3, o4⟩ := h.lo
  obtain ⟨v, w5, hr, hz, hg, hx⟩ := h.row.app hk h.bel.size hy (ty := 49)
  obtain ⟨a8, c8, hv, _⟩ := hz.form
  rw [List.length_append, List.length_singleton] at hv
  subst hv
  have hown : ∀ b T cs, Has W b T cs → T ≠ 3 → Has w5 b T cs := fun b T cs hb hT => by
    refine (hg.block b hb.lt fun e => ?_).trans hb
    rcases h.row with ⟨q, _⟩ | ⟨g, cap, q, _, _, _, cs', q5, _⟩
    · rw [q] at e; cases e
    · rw [q] at e
      have e : b = g := by injection e
      exact hb.ne q5 hT e
  have hd5 := hown _ _ _ h.d (by decide)
  have hbel : Below wb.heap.size wb w5 := h.bel.grown hg h.bel.size fun j hj => by
    rcases h.row with ⟨q, _⟩ | ⟨g, cap, q, q2, _⟩
    · rw [q] at hj; cases hj
    · rw [q] at hj
      have hj : g = j := by injection hj
      omega
  refine ⟨a8, c8, w5, hr, hd5.cell 0, hd5.free 0, hbel.setCell o1 _, hd5.put 0 _, hz.off hd5 (by decide) 0 _, ?_, ?_, h.lo⟩
  · exact SmX.off ⟨hown _ _ _ h.al.has (by decide), hx _ _ _ _ _ h.al.ex⟩ hd5 (by decide) (Ne.symm n1) 0 _
  · exact SmX.off ⟨hown _ _ _ h.un.has (by decide), hx _ _ _ _ _ h.un.ex⟩ hd5 (by decide) (Ne.symm n2) 0 _
end
/-- places in a block of integers -/
def NsT (W : World) (a : Option Addr) (l : List Nat) : Prop := ∃ (g : Nat) (cs : Array Value), a = some ⟨g, 0, none⟩ ∧ Has W g 3 cs ∧ ∀ (i k : Nat), l[i]? = some k → cs[i]? = some (natV k)
theorem NsT.up {W W' : World} {a : Option Addr} {l : List Nat} (h : NsT W a l) (q : Below W.heap.size W W') : NsT W' a l := by
  obtain ⟨g, cs, h1, h2, h3⟩ := h
  exact ⟨g, cs, h1, h2.up q, h3⟩
theorem NsT.ns {W : World} {a : Option Addr} {l : List Nat} (h : NsT W a l) : NsA W a l := by
  obtain ⟨g, cs, h1, h2, h3⟩ := h
  refine .inr ⟨g, 0, h1, fun i x hx j u hu => ?_⟩
  match j, hu with
  | 0, hu =>
    simp [natC] at hu
    rw [h2.cell, show 0 + i * 1 + 0 = i by omega, h3 i x hx, ← hu]
theorem ZRow.nst {W : World} {B : Nat} {v : Value} {ks : List Nat} (h : ZRow W B v ks) (hk : ks ≠ []) : ∃ a c, v = .slice a ks.length c ∧ NsT W a ks := by
  rcases h with ⟨_, h2⟩ | ⟨g, cap, h1, h2, h3, h4, cs, h5, h6⟩
  · exact absurd h2 hk
  · refine ⟨_, cap, h1, g, cs, rfl, h5, fun i k hi => ?_⟩
    rw [← Array.getElem?_toList, h6, List.getElem?_append_left (by rw [List.length_map]; exact (List.getElem?_eq_some_iff.1 hi).1), List.getElem?_map, hi]; rfl
/-- what Find answers, each obligation's places in a block of ints -/
def FindT (w : World) (S : Bs) (l : List Ln) (d : Int) (e : Ending) (w' : World) : Prop := ∃ a c X, e = .returned (.tuple #[.slice a X.length c, .int .i64 (findE S l d)]) ∧ X.map DuX.d = findV S l d ∧ DusA w' a X ∧ Below w.heap.size w w' ∧ ∀ y ∈ X, NsT w' y.a y.d.ls
theorem FindT.r {w w' : World} {S : Bs} {l : List Ln} {d : Int} {e : Ending} (h : FindT w S l d e w') : FindR w S l d e w' := by
  obtain ⟨a, c, X, h1, h2, h3, h4, _⟩ := h; exact ⟨a, c, X, h1, h2, h3, h4⟩
theorem findt_no {w w' : World} {S : Bs} {l : List Ln} {d E : Int} (hE : findE S l d = E) (h0 : E ≠ 0) (hb : Below w.heap.size w w') : FindT w S l d (.returned (.tuple #[.slice none 0 0, .int .i64 E])) w' :=
  ⟨none, 0, [], by rw [hE]; rfl, by unfold findV; rw [if_neg (by rw [hE]; exact h0)]; rfl, ⟨.inl rfl, fun x hx => by cases hx⟩, hb, fun x hx => by cases hx⟩
structure FoS (w1 W : World) (S : Bs) (l : List Ln) (d : Int) (i : Nat) (v9 : Value) (Y : List DuX) : Prop where
  own : OwL W w1.heap.size [⟨51, 6, v9, Y.length, Y.flatMap DuX.cells⟩]
  map : Y.map DuX.d = (fsts (dKey S l) i).map (duAt S l d)
  ns : ∀ y ∈ Y, NsT W y.a y.d.ls
  ok : ∀ j ∈ fsts (dKey S l) i, dOver S l d (mems (dKey S l) l.length j) = false
  bel : Below w1.heap.size w1 W
section
variable {w1 W W' : World} {S : Bs} {l : List Ln} {d : Int} {i : Nat} {v9 : Value} {Y : List DuX}
theorem FoS.up (h : FoS w1 W S l d i v9 Y) (q : Below W.heap.size W W') : FoS w1 W' S l d i v9 Y := ⟨h.own.up q, h.map, fun y hy => (h.ns y hy).up q, h.ok, up2 h.bel q⟩
theorem FoS.start (w1 : World) (S : Bs) (l : List Ln) (d : Int) : FoS w1 (w1.alloc (.cells #[] 51)) S l d 0 (.slice (some ⟨w1.heap.size, 0, none⟩) 0 0) [] := by
  refine ⟨⟨fun j x hx => ?_, fun j k x y hjk hx hy => ?_⟩, rfl, fun y hy => (by cases hy), fun j hj => (by simp [fsts] at hj), boxed _ _⟩
  · match j, hx with
    | 0, hx =>
      obtain rfl := Option.some.inj hx
      exact ⟨rfl, .inr ⟨_, 0, #[], rfl, Nat.le_refl _, heap_alloc_new w1 _, Nat.le_refl _, by unfold maxLen; omega, rfl, rfl⟩⟩
  · match j, k, hx, hy with
    | 0, 0, _, _ => exact absurd rfl hjk
theorem FoS.skip (h : FoS w1 W S l d i v9 Y) (hf : ¬ isFst (dKey S l) i = true) : FoS w1 W S l d (i + 1) v9 Y := by
  have e : fsts (dKey S l) (i + 1) = fsts (dKey S l) i := by rw [fsts_step, if_neg hf, List.append_nil]
  exact ⟨h.own, by rw [e]; exact h.map, h.ns, by rw [e]; exact h.ok, h.bel⟩
theorem FoS.len (h : FoS w1 W S l d i v9 Y) : Y.length ≤ i := by
  have := congrArg List.length h.map
  rw [List.length_map, List.length_map] at this
  have := fsts_le (dKey S l) i
  omega
/-- what an append to the row of obligations leaves of places -/
theorem FoS.kept (h : FoS w1 W S l d i v9 Y) (hg : W.grownBy W' v9.ownBlock) {a : Option Addr} {ks : List Nat} (hn : NsT W a ks) : NsT W' a ks := by
  obtain ⟨g, cs, h1, h2, h3⟩ := hn
  refine ⟨g, cs, h1, (hg.block g h2.lt fun e => ?_).trans h2, h3⟩
  rcases (h.own.own 0 _ rfl).2 with ⟨q, _⟩ | ⟨g', cp, cur, q, _, q2, _⟩
  · have q : v9 = .slice none 0 0 := q
    rw [q] at e; cases e
  · have q : v9 = .slice (some ⟨g', 0, none⟩) Y.length cp := q
    rw [q] at e
    have e : g = g' := by injection e
    subst e
    exact h2.ne (show Has W g 51 cur from q2) (by decide) rfl
theorem FoS.more (h : FoS w1 W S l d i v9 Y) (hi : i ≤ 1000) (hf : isFst (dKey S l) i = true) (ho : dOver S l d (mems (dKey S l) l.length i) = false) {x : DuX} (hx : x.d = duAt S l d i) (hn : NsT W x.a x.d.ls) {y : Nat} (hy : Has W y 51 x.cells.toArray) :
    ∃ v w5, (Builtin.append_ #[119, 119] 119 #[v9, .slice (some ⟨y, 0, none⟩) 1 1]).run Tryz.prog W = .ok v w5 ∧ FoS w1 w5 S l d (i + 1) v (Y ++ [x]) := by
  have hl := h.len
  obtain ⟨v, w5, hr, ho5, hb, _, _, hg⟩ := h.own.app2 (i := 0) rfl (t := 119) (ty := 119) Tryz.underlying119 infoDuty rfl (Nat.zero_lt_succ _) (by decide) x.cells rfl (ad := ⟨y, 0, none⟩) (fun j u hu => by
    rw [addr_off, Nat.zero_add, hy.cell]
    exact (List.getElem?_toArray (xs := x.cells) (i := j)).trans hu) (fun u hu => by
      simp [DuX.cells] at hu
      rcases hu with rfl | rfl | rfl | rfl | rfl | rfl <;> rfl) (by simp only; omega) h.bel (Nat.le_refl _) h.bel.size
  have e : fsts (dKey S l) (i + 1) = fsts (dKey S l) i ++ [i] := by rw [fsts_step, if_pos hf]
  refine ⟨v, w5, hr, ⟨?_, ?_, fun u hu => ?_, fun j hj => ?_, hb⟩⟩
  · rw [List.flatMap_append, List.flatMap_singleton, List.length_append]; exact ho5
  · rw [e, List.map_append, List.map_append, h.map]; simp [hx]
  · rcases List.mem_append.1 hu with hu | hu
    · exact h.kept hg (h.ns u hu)
    · rw [List.mem_singleton.1 hu]; exact h.kept hg hn
  · rw [e] at hj
    rcases List.mem_append.1 hj with hj | hj
    · exact h.ok j hj
    · rw [List.mem_singleton.1 hj]; exact ho
/-- the end -/
theorem FoS.done (h : FoS w1 W S l d l.length v9 Y) (hd : 0 ≤ d) (hc : chkE S l = 0) {w0 : World} (hb : Below w0.heap.size w0 w1) : FindT w0 S l d (.returned (.tuple #[v9, .int .i64 0])) W := by
  have hz : findE S l d = 0 := by
    unfold findE
    rw [if_neg (by omega), if_neg (by omega), duOver_any, if_neg]
    rw [List.any_eq_true]
    rintro ⟨j, hj, ho⟩
    rw [h.ok j hj] at ho; cases ho
  obtain ⟨a, c, e, _⟩ := h.own.form (i := 0) rfl
  have e : v9 = .slice a Y.length c := e
  subst e
  refine ⟨a, c, Y, by rw [hz], ?_, ⟨(OwL.rws du_len h.own (i := 0) rfl rfl).1, fun y hy => (h.ns y hy).ns⟩, up2 hb h.bel, h.ns⟩
  unfold findV
  rw [if_pos hz]
  exact h.map
end
/-- the first ones ahead, one by one -/
def noneB (K : Nat → Kk) (i k : Nat) : Bool := (List.range k).all fun j => decide (K j ≠ K i)
theorem none_step (K : Nat → Kk) (i k : Nat) : noneB K i (k + 1) = (noneB K i k && !decide (K k = K i)) := by
  unfold noneB
  rw [List.range_succ, List.all_append]
  simp
theorem none_fst (K : Nat → Kk) (i : Nat) : noneB K i i = isFst K i := rfl
theorem mems_none {K : Nat → Kk} {i : Nat} (h : isFst K i = true) : mems K i i = [] :=
  List.eq_nil_iff_forall_not_mem.2 fun j hj => isFst_iff.1 h j (mem_mems.1 hj).1 (mem_mems.1 hj).2
theorem over_no {S : Bs} {l : List Ln} {d : Int} {ls : List Nat} (h0 : ∀ k ∈ ls, aloE S (lnAt l k) d = 0) (h1 : am64 (alT S l d ls) = true) (h2 : am64 (unT l ls) = true) : dOver S l d ls = false := by
  unfold dOver
  unfold alT at h1
  unfold unT at h2
  rw [h1, h2, Bool.or_eq_false_iff, Bool.or_eq_false_iff]
  refine ⟨⟨?_, rfl⟩, rfl⟩
  rw [List.any_eq_false]
  intro k hk
  simp [h0 k hk]
theorem over_al {S : Bs} {l : List Ln} {d : Int} {ls : List Nat} (h : am64 (alT S l d ls) = false ∨ am64 (unT l ls) = false) : dOver S l d ls = true := by
  unfold dOver
  unfold alT unT at h
  rcases h with h | h <;> rw [h] <;> simp
theorem over_alo {S : Bs} {l : List Ln} {d : Int} {ls : List Nat} {k : Nat} (hk : k ∈ ls) (h : aloE S (lnAt l k) d ≠ 0) : dOver S l d ls = true := by
  unfold dOver
  rw [Bool.or_eq_true, Bool.or_eq_true]
  exact .inl (.inl (List.any_eq_true.2 ⟨k, hk, by simpa using h⟩))
theorem sums_small {S : Bs} {l : List Ln} {d : Int} (hAm : ∀ x ∈ l, Am x.un) {ls : List Nat} (hn : ls.length ≤ 1000) : Small (alT S l d ls) ∧ Small (unT l ls) := by
  have key : ∀ (f : Nat → Int) (ls : List Nat), (∀ k, Am (f k)) → -(9223372036854775808 * (ls.length : Int)) ≤ sumD f ls ∧ sumD f ls ≤ 9223372036854775808 * (ls.length : Int) := by
    intro f ls hf
    induction ls with
    | nil => simp [sumD]
    | cons x l ih =>
      have := hf x
      unfold Am at this
      simp only [sumD, List.length_cons]
      omega
  have h1 := key (fun k => aloV S (lnAt l k) d) ls fun k => aloV_am _ _ _
  have h2 := key (fun k => (lnAt l k).un) ls fun k => lnAt_mem (P := fun x => Am x.un) hAm (am_small (by decide) (by decide)) k
  have hs : ∀ v : Int, -(9223372036854775808 * (ls.length : Int)) ≤ v → v ≤ 9223372036854775808 * (ls.length : Int) → Small v := fun v a b => by
    unfold Small
    have h3 : (1000 : Int) ^ 9 * 1 ≤ 1000 ^ (9 + 191) := by
      rw [Int.pow_add]; exact Int.mul_le_mul_of_nonneg_left (by have := pow_pos' 191; omega) (by decide)
    have h4 : (1000 : Int) ^ 9 = 1000000000000000000000000000 := by decide
    have h5 : (1000 : Int) ^ (9 + 191) = 1000 ^ 200 := rfl
    rw [h4, h5] at h3
    generalize (1000 : Int) ^ 200 = P at *
    omega
  exact ⟨hs _ h1.1 h1.2, hs _ h2.1 h2.2⟩
end Go.Proofs.YtklaonoekmhakaaGreat
