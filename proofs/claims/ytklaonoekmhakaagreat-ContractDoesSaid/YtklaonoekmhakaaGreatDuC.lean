/- bondOf, indexOf. -/
import Derived.Test.YtklaonoekmhakaaGreatDuA
namespace Go.Proofs.YtklaonoekmhakaaGreat
open Go.RowKit

abbrev Kk := Int × Int
def keyC (q : Kk) : List Value := [.int .i64 q.1, .int .i64 q.2]
def keyV (q : Kk) : Value := .agg #[.int .i64 q.1, .int .i64 q.2]
theorem key_len (q : Kk) : (keyC q).length = 2 := rfl
abbrev KyA (w : World) (a : Option Addr) (l : List Kk) : Prop := Rws keyC 2 w a l
theorem ky_at {w : World} {a : Option Addr} {l : List Kk} (h : KyA w a l) {j : Nat} {q : Kk} (hx : l[j]? = some q) : ∃ b o, a = some ⟨b, o, none⟩ ∧ w.cell? ⟨b, o + j * 2, none⟩ = some (.int .i64 q.1) ∧ w.cell? ⟨b, o + j * 2 + 1, none⟩ = some (.int .i64 q.2) := by
  rcases h with h | ⟨b, o, e, h⟩
  · rw [h] at hx; simp at hx
  · exact ⟨b, o, e, h j q hx 0 _ rfl, h j q hx 1 _ rfl⟩
theorem itV_im {S : Bs} {x : Ln} (h : hasB S x.it = true) : itV S x.it = imAt S x := by
  unfold itV imAt
  rw [if_pos h]
/-- the bond of a line at a place -/
def bondK (m : Im) (it : Int) (k : Int) : Kk := if m.tag = 1 then (1, m.grp) else if m.tag = 2 then (2, it) else (0, k)
theorem bond_key (S : Bs) (l : List Ln) (k : Nat) : bondK (imAt S (lnAt l k)) (lnAt l k).it k = dKey S l k := rfl
section
variable {w : World} {p r : Nat} {S : Bs}
set_option maxRecDepth 100000 in
set_option maxHeartbeats 4000000 in
theorem bondOf_any (x : Ln) (k : Nat) (h : Bk w p r S) (hb : hasB S x.it = true) (ht : (imAt S x).tag = 0 ∨ (imAt S x).tag = 1 ∨ (imAt S x).tag = 2) : Calls Tryz.prog 133 #[.pointer (some ⟨p, 0, none⟩), x.val, .int .i64 (k : Int)] w fun e w' => e = .returned (keyV (bondK (imAt S x) x.it k)) ∧ Below w.heap.size w w' := by
  have HH := Lib.hid (fun (W : World) (hb : Below w.heap.size w W) => item_any x.it (h.up hb))
  have hI := itV_im hb
  obtain ⟨m, hm⟩ : ∃ m, m = imAt S x := ⟨_, rfl⟩
  rw [← hm] at hI ht ⊢
  unfold ItmR at HH
  rw [hI, hb] at HH
  clear h hb hm hI
  obtain ⟨it, un, ch, fi, la⟩ := x
  obtain ⟨tag, grp, met, pri⟩ := m
  show Calls Tryz.prog 133 #[.pointer (some ⟨p, 0, none⟩), .agg #[.int .i64 it, .int .i64 un, .int .i64 ch, .int .i64 fi, .int .i64 la], .int .i64 (k : Int)] w _
  simp only [Im.val] at HH ht
  rcases ht with rfl | rfl | rfl
  all_goals
    go_enter Tryz.func133, Tryz.ntmps133
    go_wp2_with fail
    refine (HH.out _ (up2 (boxed _ _) (boxed _ _))).mono ?_
    rintro e w1 ⟨rfl, hb1⟩
    have d0 := kcell hb1 (show ((w.alloc (.cells #[.int .i64 it, .int .i64 un, .int .i64 ch, .int .i64 fi, .int .i64 la] 74)).alloc (.cells #[.int .i64 0, .int .i64 0] 195)).cell? ⟨w.heap.size, 0, none⟩ = some (.int .i64 it) by simp [go_sem])
    have d1 := kcell hb1 (show ((w.alloc (.cells #[.int .i64 it, .int .i64 un, .int .i64 ch, .int .i64 fi, .int .i64 la] 74)).alloc (.cells #[.int .i64 0, .int .i64 0] 195)).cell? ⟨w.heap.size + 1, 0, none⟩ = some (.int .i64 0) by simp [go_sem])
    have d2 := kcell hb1 (show ((w.alloc (.cells #[.int .i64 it, .int .i64 un, .int .i64 ch, .int .i64 fi, .int .i64 la] 74)).alloc (.cells #[.int .i64 0, .int .i64 0] 195)).cell? ⟨w.heap.size + 1, 1, none⟩ = some (.int .i64 0) by simp [go_sem])
    have d3 : w1.frozen? ⟨w.heap.size + 1, 0, none⟩ = false := (hb1.frozen (by simp)).trans (by simp [go_sem])
    have d4 : w1.frozen? ⟨w.heap.size + 1, 1, none⟩ = false := (hb1.frozen (by simp)).trans (by simp [go_sem])
    have hz := World.block_lt_of_cell? _ _ d1
    have hz0 := World.block_lt_of_cell? _ _ d0
    have HB := Lib.hid hb1
    clear hb1
    go_wp2_with fail
    have hb2 : Below w.heap.size w w1 := up2 (up2 (boxed _ _) (boxed _ _)) HB.out
    have hz2 : w.heap.size + 1 < w1.heap.size := hz
    refine bodyPost_ret (by simp [results, Tryz.results133, go_sem, hz2, d1, d2]; rfl) rfl ⟨by simp [bondK]; rfl, ?_⟩
    exact ((hb2.setCell (p := ⟨w.heap.size + 1, 0, none⟩) (by simp) _).setCell (p := ⟨w.heap.size + 1, 1, none⟩) (by simp) _).alloc (by simpa using hb2.size) _
end
set_option maxRecDepth 100000 in
set_option maxHeartbeats 4000000 in
theorem indexOf_any (a : Option Addr) (n cap : Nat) (l : List Kk) (q : Kk) (w : World) (hn : l.length = n) (hn2 : n ≤ 1000) (hl : KyA w a l) : Calls Tryz.prog 134 #[.slice a n cap, keyV q] w fun e w' => e = .returned (.int .i64 (idxK q l : Int)) ∧ Below w.heap.size w w' := by
  obtain ⟨q1, q2⟩ := q
  show Calls Tryz.prog 134 #[.slice a n cap, .agg #[.int .i64 q1, .int .i64 q2]] w _
  obtain ⟨E, hE⟩ : ∃ E, E = idxK (q1, q2) l := ⟨_, rfl⟩
  rw [← hE]
  have HE := Lib.hid hE
  have HL := Lib.hid hl
  have HN := Lib.hid hn
  clear hE hl hn
  go_enter Tryz.func134, Tryz.ntmps134
  go_wp2_with fail
  go_loopw [9] (fun i wr => ∃ k : Nat, k ≤ n ∧ i = .int .i64 (k : Int) ∧ (∀ t x, t < k → l[t]? = some x → x ≠ (q1, q2)) ∧ Below w.heap.size w wr ∧ wr.cell? ⟨w.heap.size, 0, none⟩ = some (.int .i64 q1) ∧ wr.cell? ⟨w.heap.size, 1, none⟩ = some (.int .i64 q2)) (fun i _ => n - (intOf i).toNat)
  case atStart => exact ⟨0, Nat.zero_le _, rfl, fun t x ht _ => by omega, boxed _ _, by simp [go_sem], by simp [go_sem]⟩
  case round =>
    obtain ⟨k, hk, rfl, hall, hb, d0, d1⟩ := hrel
    have HA := Lib.hid hall
    have HB := Lib.hid hb
    have hz := World.block_lt_of_cell? _ _ d0
    clear hall hb
    by_cases hlt : k < n
    · obtain ⟨x, hx⟩ : ∃ x, l[k]? = some x := ⟨l[k]'(by rw [HN.out]; exact hlt), List.getElem?_eq_getElem _⟩
      obtain ⟨b, o, ha, c0, c1⟩ := ky_at (HL.out.up HB.out) hx
      subst ha
      have HX := Lib.hid hx
      clear hx
      obtain ⟨x1, x2⟩ := x
      by_cases e : x1 = q1 ∧ x2 = q2
      · obtain ⟨rfl, rfl⟩ := e
        have hEk : E = k := HE.out.trans (idxK_at HX.out HA.out)
        go_wp2_with fail
        go_ret
        exact ⟨rfl, HB.out.alloc HB.out.size _⟩
      · have HA1 : Hid (∀ t x, t < k + 1 → l[t]? = some x → x ≠ (q1, q2)) := fun t x ht hx2 => by
          by_cases z : t = k
          · subst z
            rw [HX.out] at hx2
            rintro rfl
            injection hx2 with hx2
            injection hx2 with z1 z2
            exact e ⟨z1, z2⟩
          · exact HA.out t x (by omega) hx2
        have e1 : IntKind.i64.wrap ((k : Int) + 1) = (k : Int) + 1 := IntWalk.i64_in _ (by omega)
        go_wp2_with fail
        all_goals
          refine ⟨⟨k + 1, by omega, by go_num, HA1.out, HB.out.alloc HB.out.size _, ?_, ?_⟩, ?_⟩
          · exact (World.cell?_alloc_past _ _ _ hz).trans d0
          · exact (World.cell?_alloc_past _ _ _ hz).trans d1
          · simp [intOf]; omega
    · obtain rfl : k = n := by omega
      have hEk : E = k := HE.out.trans ((idxK_all (fun j x hj => HA.out j x (by rw [HN.out] at hj; exact hj))).trans HN.out)
      go_wp2_with fail
      go_ret
      exact ⟨rfl, HB.out⟩
end Go.Proofs.YtklaonoekmhakaaGreat

namespace Go.Proofs.YtklaonoekmhakaaGreat
open Go.RowKit

theorem infoBond : (Tryz.prog.info? 195).map (fun i => (i.zero, i.size, i.bytes)) = some (some (.agg #[.int .i64 0, .int .i64 0]), 2, 16) := by kernel_rfl
theorem infoInts : (Tryz.prog.info? 49).map (fun i => (i.zero, i.size, i.bytes)) = some (some (.slice none 0 0), 1, 24) := by kernel_rfl
theorem infoInt : (Tryz.prog.info? 3).map (fun i => (i.zero, i.size, i.bytes)) = some (some (.int .i64 0), 1, 8) := by kernel_rfl
/-- a row of places on its way: its value, its places -/
abbrev Inr := Value × List Nat
def inOb (x : Inr) : Ob := ⟨3, 1, x.1, x.2.length, x.2.map natV⟩
/-- the rows of together's own -/
def tgL (vb vr : Value) (ks : List Kk) (X : List Inr) : List Ob :=
  ⟨195, 2, vb, ks.length, ks.flatMap keyC⟩ :: ⟨49, 1, vr, X.length, X.map (·.1)⟩ :: X.map inOb
/-- what together bears on its way -/
structure TgO (w0 w : World) (vb vr : Value) (ks : List Kk) (X : List Inr) : Prop where
  own : OwL w w0.heap.size (tgL vb vr ks X)
  bel : Below w0.heap.size w0 w
section
variable {w0 w w' : World} {vb vr : Value} {ks : List Kk} {X : List Inr}
theorem TgO.up (h : TgO w0 w vb vr ks X) (q : Below w.heap.size w w') : TgO w0 w' vb vr ks X := ⟨h.own.up q, up2 h.bel q⟩
theorem TgO.start (w : World) : TgO w w (.slice none 0 0) (.slice none 0 0) [] [] := by
  refine ⟨OwL.nils fun x hx => ?_, Below.refl _ _⟩
  simp only [tgL, List.map_nil, List.mem_cons, List.not_mem_nil, or_false] at hx
  rcases hx with rfl | rfl
  · exact ⟨_, _, rfl⟩
  · exact ⟨_, _, rfl⟩
theorem keysTo_le (K : Nat → Kk) (k : Nat) : (keysTo K k).length ≤ k := by
  unfold keysTo fsts
  rw [List.length_map]
  exact Nat.le_trans (List.length_filter_le _ _) (by simp)
theorem TgO.keys (h : TgO w0 w vb vr ks X) : ∃ a c, vb = .slice a ks.length c ∧ KyA w a ks := by
  obtain ⟨a, c, e, _⟩ := h.own.form (i := 0) rfl
  have e : vb = .slice a ks.length c := e
  subst e
  exact ⟨a, c, rfl, (OwL.rws key_len h.own (i := 0) rfl rfl).1⟩
theorem TgO.key (h : TgO w0 w vb vr ks X) (hn : ks.length ≤ 1000) {q : Kk} {y : Nat} (hy : Has w y 195 #[.int .i64 q.1, .int .i64 q.2]) :
    ∃ v w5, (Builtin.append_ #[193, 193] 193 #[vb, .slice (some ⟨y, 0, none⟩) 1 1]).run Tryz.prog w = .ok v w5 ∧ TgO w0 w5 v vr (ks ++ [q]) X := by
  obtain ⟨v, w5, hr, ho, hb, _, _⟩ := h.own.app (i := 0) rfl (t := 193) (ty := 193) Tryz.underlying193 infoBond rfl (Nat.zero_lt_succ _) (by decide) (keyC q) rfl (ad := ⟨y, 0, none⟩) (fun j u hu => by
    rw [addr_off, Nat.zero_add, hy.cell]
    exact (List.getElem?_toArray (xs := keyC q) (i := j)).trans hu) (fun u hu => by simp [keyC] at hu; rcases hu with rfl | rfl <;> rfl) (by simp only; omega) h.bel (Nat.le_refl _) h.bel.size
  refine ⟨v, w5, hr, ?_, hb⟩
  have e : (tgL vb vr ks X).set 0 ⟨195, 2, v, ks.length + 1, ks.flatMap keyC ++ keyC q⟩ = tgL v vr (ks ++ [q]) X := by
    unfold tgL
    rw [List.set_cons_zero, List.flatMap_append, List.length_append]; rfl
  rw [← e]; exact ho
theorem TgO.row (h : TgO w0 w vb vr ks X) (hn : X.length ≤ 1000) {y : Nat} (hy : Has w y 49 #[.slice none 0 0]) :
    ∃ v w5, (Builtin.append_ #[167, 167] 167 #[vr, .slice (some ⟨y, 0, none⟩) 1 1]).run Tryz.prog w = .ok v w5 ∧ TgO w0 w5 vb v ks (X ++ [(.slice none 0 0, [])]) := by
  obtain ⟨v, w5, hr, ho, hb, _, _⟩ := h.own.app (i := 1) rfl (t := 167) (ty := 167) Tryz.underlying167 infoInts rfl (Nat.zero_lt_succ _) (by decide) [.slice none 0 0] rfl (ad := ⟨y, 0, none⟩) (fun j u hu => by
    rw [addr_off, Nat.zero_add, hy.cell]
    exact (List.getElem?_toArray (xs := [Value.slice none 0 0]) (i := j)).trans hu) (fun u hu => by simp at hu; rcases hu with rfl; rfl) (by simp only; omega) h.bel (Nat.le_refl _) h.bel.size
  refine ⟨v, w5, hr, ?_, hb⟩
  have e : (tgL vb vr ks X).set 1 ⟨49, 1, v, X.length + 1, X.map (·.1) ++ [.slice none 0 0]⟩ ++ [nilOb 3 1] = tgL vb v ks (X ++ [(.slice none 0 0, [])]) := by
    unfold tgL
    rw [List.set_cons_succ, List.set_cons_zero, List.map_append, List.map_append, List.length_append]; rfl
  rw [← e]; exact ho.snoc _ _
/-- a row of places, as it lies among the rows -/
theorem TgO.get (h : TgO w0 w vb vr ks X) {t : Nat} {x : Inr} (hx : X[t]? = some x) : ∃ g c, vr = .slice (some ⟨g, 0, none⟩) X.length c ∧ w.cell? ⟨g, t, none⟩ = some x.1 ∧ w.frozen? ⟨g, t, none⟩ = false ∧ w0.heap.size ≤ g := by
  obtain ⟨a, c, e, ha, hs⟩ := h.own.form (i := 1) rfl
  have e : vr = .slice a X.length c := e
  have ht := (List.getElem?_eq_some_iff.1 hx).1
  cases a with
  | none => have := (ha rfl).1; simp at this; subst this; simp at hx
  | some ad =>
    obtain ⟨g, rfl⟩ := hs ad rfl
    subst e
    have ho := h.own.own 1 _ rfl
    refine ⟨g, c, rfl, ?_, World.ownsRow.frozenAt ho t, (h.own.ge (i := 1) rfl).1⟩
    rw [World.ownsRow.cellAt ho t (by simpa using ht)]
    show (X.map (·.1))[t]? = _
    rw [List.getElem?_map, hx]; rfl
theorem TgO.place (h : TgO w0 w vb vr ks X) {t k : Nat} {x : Inr} (hx : X[t]? = some x) (hn : x.2.length ≤ 1000) {y : Nat} (hy : Has w y 3 #[.int .i64 (k : Int)]) {g c : Nat} (hvr : vr = .slice (some ⟨g, 0, none⟩) X.length c) :
    ∃ a8 c8 w5, (Builtin.append_ #[49, 49] 49 #[x.1, .slice (some ⟨y, 0, none⟩) 1 1]).run Tryz.prog w = .ok (.slice a8 (x.2.length + 1) c8) w5 ∧ w5.cell? ⟨g, t, none⟩ = some x.1 ∧ w5.frozen? ⟨g, t, none⟩ = false ∧ TgO w0 (w5.setCell ⟨g, t, none⟩ (.slice a8 (x.2.length + 1) c8)) vb vr ks (X.set t (.slice a8 (x.2.length + 1) c8, x.2 ++ [k])) := by
  have ht := (List.getElem?_eq_some_iff.1 hx).1
  have hL : (tgL vb vr ks X)[t + 2]? = some (inOb x) := by
    show (X.map inOb)[t]? = _
    rw [List.getElem?_map, hx]; rfl
  obtain ⟨v, w5, hr, ho, hb, _, hform⟩ := h.own.app hL (t := 49) (ty := 49) Tryz.underlying49 infoInt rfl (Nat.zero_lt_succ _) (by decide) [.int .i64 (k : Int)] rfl (ad := ⟨y, 0, none⟩) (fun j u hu => by
    rw [addr_off, Nat.zero_add, hy.cell]
    exact (List.getElem?_toArray (xs := [Value.int .i64 (k : Int)]) (i := j)).trans hu) (fun u hu => by simp at hu; rcases hu with rfl; rfl) (by show x.2.length ≤ _; omega) h.bel (Nat.le_refl _) h.bel.size
  subst hvr
  obtain ⟨a8, c8, hv⟩ := hform
  have hv : v = .slice a8 (x.2.length + 1) c8 := hv
  subst hv
  have h1 := ho.own 1 ⟨49, 1, .slice (some ⟨g, 0, none⟩) X.length c, X.length, X.map (·.1)⟩ (by rw [List.getElem?_set_ne (by omega)]; rfl)
  have hs := ho.store (i := 1) (T := 49) (z := 1) (n := X.length) (cap := c) (g := g) (xs := X.map (·.1)) (by rw [List.getElem?_set_ne (by omega)]; rfl) t (.slice a8 (x.2.length + 1) c8)
  refine ⟨a8, c8, w5, hr, ?_, World.ownsRow.frozenAt h1 t, ?_, hb.setCell (ho.ge (i := 1) (T := 49) (z := 1) (n := X.length) (cap := c) (g := g) (xs := X.map (·.1)) (by rw [List.getElem?_set_ne (by omega)]; rfl)).1 _⟩
  · rw [World.ownsRow.cellAt h1 t (by simpa using ht)]
    show (X.map (·.1))[t]? = _
    rw [List.getElem?_map, hx]; rfl
  · have e : ((tgL vb (.slice (some ⟨g, 0, none⟩) X.length c) ks X).set (t + 2) ⟨3, 1, .slice a8 (x.2.length + 1) c8, x.2.length + 1, x.2.map natV ++ [.int .i64 (k : Int)]⟩).set 1 ⟨49, 1, .slice (some ⟨g, 0, none⟩) X.length c, X.length, (X.map (·.1)).set t (.slice a8 (x.2.length + 1) c8)⟩ = tgL vb (.slice (some ⟨g, 0, none⟩) X.length c) ks (X.set t (.slice a8 (x.2.length + 1) c8, x.2 ++ [k])) := by
      unfold tgL
      rw [List.set_cons_succ, List.set_cons_succ, List.set_cons_succ, List.set_cons_zero, List.map_set, List.map_set, List.length_set]
      unfold inOb natV
      simp
    rw [← e]; exact hs
end
/-- behind k lines -/
structure TgS (w0 w : World) (vb vr : Value) (K : Nat → Kk) (k : Nat) (X : List Inr) : Prop where
  o : TgO w0 w vb vr (keysTo K k) X
  rows : X.map (·.2) = groups K k
theorem TgS.len {w0 w : World} {vb vr : Value} {K : Nat → Kk} {k : Nat} {X : List Inr} (h : TgS w0 w vb vr K k X) : X.length = (keysTo K k).length := by
  have := congrArg List.length h.rows
  rw [List.length_map, groups_len] at this; exact this
/-- what together answers -/
def TogR (w : World) (K : Nat → Kk) (n : Nat) (e : Ending) (w' : World) : Prop := ∃ a c X, e = .returned (.slice a X.length c) ∧ X.map NsX.l = groups K n ∧ RowsA w' a X ∧ Below w.heap.size w w'
theorem TgS.done {w0 w : World} {vb vr : Value} {K : Nat → Kk} {k : Nat} {X : List Inr} (h : TgS w0 w vb vr K k X) : TogR w0 K k (.returned vr) w := by
  obtain ⟨a, c, e, _, _⟩ := h.o.own.form (i := 1) rfl
  have e : vr = .slice a X.length c := e
  have hX : ∃ Y : List NsX, Y.map NsX.l = X.map (·.2) ∧ Y.map NsX.val = X.map (·.1) ∧ ∀ y ∈ Y, NsA w y.a y.l := by
    have key : ∀ Z : List Inr, (∀ z ∈ Z, z ∈ X) → ∃ Y : List NsX, Y.map NsX.l = Z.map (·.2) ∧ Y.map NsX.val = Z.map (·.1) ∧ ∀ y ∈ Y, NsA w y.a y.l := by
      intro Z
      induction Z with
      | nil => intro _; exact ⟨[], rfl, rfl, fun y hy => by cases hy⟩
      | cons z Z ih =>
        intro hZ
        obtain ⟨Y, e1, e2, e3⟩ := ih fun u hu => hZ u (by simp [hu])
        obtain ⟨t, ht⟩ := List.getElem?_of_mem (hZ z (by simp))
        have hL : (tgL vb vr (keysTo K k) X)[t + 2]? = some (inOb z) := by
          show (X.map inOb)[t]? = _
          rw [List.getElem?_map, ht]; rfl
        obtain ⟨a2, c2, e4, _⟩ := h.o.own.form hL
        obtain ⟨v, l⟩ := z
        have e4 : v = .slice a2 l.length c2 := e4
        subst e4
        have hR := (OwL.rws (T := 3) (n := l.length) (cap := c2) (a := a2) nat_len h.o.own (i := t + 2) (l := l) (by rw [hL, nat_flat]; rfl) rfl).1
        refine ⟨⟨a2, c2, l⟩ :: Y, by simp [e1], by simp [e2, NsX.val], fun y hy => ?_⟩
        rcases List.mem_cons.1 hy with rfl | hy
        · exact hR
        · exact e3 y hy
    exact key X fun z hz => hz
  obtain ⟨Y, e1, e2, e3⟩ := hX
  have hl : Y.length = X.length := by simpa using congrArg List.length e1
  refine ⟨a, c, Y, by rw [e, hl], by rw [e1, h.rows], ⟨?_, e3⟩, h.o.bel⟩
  subst e
  have hfl : Y.flatMap NsX.cells = X.map (·.1) := by
    rw [← e2]
    clear e2 e1 e3 hl
    induction Y with
    | nil => rfl
    | cons y Y ih => rw [List.flatMap_cons, ih]; rfl
  exact (OwL.rws (T := 49) (n := X.length) (cap := c) (a := a) (c := NsX.cells) (l := Y) (fun _ => rfl) h.o.own (i := 1) (by rw [hfl]; rfl) hl).1
end Go.Proofs.YtklaonoekmhakaaGreat
