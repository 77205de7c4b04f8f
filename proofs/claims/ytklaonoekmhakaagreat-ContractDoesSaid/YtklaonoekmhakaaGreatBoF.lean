/- Arguments of the price's statements: what is read of them. -/
import Derived.Test.YtklaonoekmhakaaGreatBoW
import Derived.Test.YtklaonoekmhakaaGreatCtMem
import Derived.Test.YtklaonoekmhakaaGreatDuA
namespace Go.Proofs.YtklaonoekmhakaaGreat
open Go.ChangeShapes Go.WideShapes Go.ChangeAt Go.RowKit Go.Deep

theorem cMaybe : Tryz.prog.cellsOf 84 = 2 := by kernel_rfl
section
variable {H : Type} {enc : TypeId × Value → H} {W : World} {base : Nat} {spare : Nat → Bool} {held : Bool}
set_option maxRecDepth 100000 in
theorem mb_read (fuel : Nat) (cs : List Value) (y : DataW H × List MemPlace) (h : DataW.trod enc Tryz.prog W base spare held fuel 84 cs = some y) : ∃ x : Mb, cs = x.cells ∧ mbG x := by
  obtain ⟨ys, n, _, _, hlen, hyl, hf⟩ := DataW.trod_struct Tryz.underlying84 h
  have h2 : cs.length = 2 := hlen.trans cMaybe
  match cs, h2 with
  | [c0, c1], _ =>
    match ys, hyl with
    | [y0, y1], _ =>
      have g0 : DataW.trod enc Tryz.prog W base spare held n 2 [c0] = some y0 := by simpa [cI64] using hf 0 _ rfl
      have g1 : DataW.trod enc Tryz.prog W base spare held n 3 [c1] = some y1 := by simpa [cInt] using hf 1 _ rfl
      obtain ⟨a, e0, _, w0⟩ := DataW.trod_int Tryz.underlying2 g0
      obtain ⟨b, e1, _, w1⟩ := DataW.trod_int Tryz.underlying3 g1
      simp at e0 e1
      subst e0 e1
      exact ⟨⟨a, b⟩, rfl, bounds_i64 w0, bounds_i64 w1⟩
theorem mbs_read {fuel : Nat} {a : Option Addr} {len cap : Nat} {y : DataW H × List MemPlace} (h : DataW.trod enc Tryz.prog W base spare held fuel 24 [.slice a len cap] = some y) :
    ∃ l : List Mb, l.length = len ∧ MbA W a l ∧ (∀ x ∈ l, mbG x) ∧ (a = none → cap = 0) := rows_read Tryz.underlying24 cMaybe (by decide) mb_len mb_read h
end
end Go.Proofs.YtklaonoekmhakaaGreat

namespace Go.Proofs.YtklaonoekmhakaaGreat
open Go.ChangeShapes Go.WideShapes Go.ChangeAt Go.RowKit Go.Deep

theorem cOp16 : Tryz.prog.cellsOf 38 = 4 := by kernel_rfl
theorem cTerms : Tryz.prog.cellsOf 26 = 5 := by kernel_rfl
theorem cItems1 : Tryz.prog.cellsOf 22 = 1 := by kernel_rfl
theorem cLines1 : Tryz.prog.cellsOf 23 = 1 := by kernel_rfl
theorem cMaybes1 : Tryz.prog.cellsOf 24 = 1 := by kernel_rfl
def o4G (x : Op4) : Prop := Am x.k ∧ Am x.du ∧ Am x.dy ∧ Am x.n
structure TmG (x : Tm) : Prop where
  I : ∀ y ∈ x.I, imG y
  l : ∀ y ∈ x.l, lnG y
  m : ∀ y ∈ x.m, mbG y
  b : Am x.b
  d : Am x.d
section
variable {H : Type} {enc : TypeId × Value → H} {W : World} {base : Nat} {spare : Nat → Bool} {held : Bool}
theorem slice_form {tS T : TypeId} (hS : Tryz.prog.underlying tS = some (.slice T)) {fuel : Nat} {cs : List Value} {y : DataW H × List MemPlace} (h : DataW.trod enc Tryz.prog W base spare held fuel tS cs = some y) : ∃ a len cap, cs = [.slice a len cap] := by
  rcases open_slice hS h with ⟨hcs, _⟩ | ⟨x, l0, c0, m, n, D, Pl, hcs, _⟩
  · exact ⟨_, _, _, hcs⟩
  · exact ⟨_, _, _, hcs⟩
set_option maxRecDepth 100000 in
theorem o4_read (fuel : Nat) (cs : List Value) (y : DataW H × List MemPlace) (h : DataW.trod enc Tryz.prog W base spare held fuel 38 cs = some y) : ∃ x : Op4, cs = o4C x ∧ o4G x := by
  obtain ⟨ys, n, _, _, hlen, hyl, hf⟩ := DataW.trod_struct Tryz.underlying38 h
  have h2 : cs.length = 4 := hlen.trans cOp16
  match cs, h2 with
  | [c0, c1, c2, c3], _ =>
    match ys, hyl with
    | [y0, y1, y2, y3], _ =>
      have g0 : DataW.trod enc Tryz.prog W base spare held n 3 [c0] = some y0 := by simpa [cInt] using hf 0 _ rfl
      have g1 : DataW.trod enc Tryz.prog W base spare held n 3 [c1] = some y1 := by simpa [cInt] using hf 1 _ rfl
      have g2 : DataW.trod enc Tryz.prog W base spare held n 3 [c2] = some y2 := by simpa [cInt] using hf 2 _ rfl
      have g3 : DataW.trod enc Tryz.prog W base spare held n 2 [c3] = some y3 := by simpa [cI64] using hf 3 _ rfl
      obtain ⟨a, e0, _, w0⟩ := DataW.trod_int Tryz.underlying3 g0
      obtain ⟨b, e1, _, w1⟩ := DataW.trod_int Tryz.underlying3 g1
      obtain ⟨c, e2, _, w2⟩ := DataW.trod_int Tryz.underlying3 g2
      obtain ⟨d, e3, _, w3⟩ := DataW.trod_int Tryz.underlying2 g3
      simp at e0 e1 e2 e3
      subst e0 e1 e2 e3
      exact ⟨⟨a, b, c, d⟩, rfl, bounds_i64 w0, bounds_i64 w1, bounds_i64 w2, bounds_i64 w3⟩
theorem o4s_read {fuel : Nat} {a : Option Addr} {len cap : Nat} {y : DataW H × List MemPlace} (h : DataW.trod enc Tryz.prog W base spare held fuel 27 [.slice a len cap] = some y) :
    ∃ l : List Op4, l.length = len ∧ O4A W a l ∧ (∀ x ∈ l, o4G x) ∧ (a = none → cap = 0) := rows_read Tryz.underlying27 cOp16 (by decide) o4_len o4_read h
set_option maxRecDepth 100000 in
/-- terms that came in -/
theorem tm_read {fuel : Nat} {cs : List Value} {y : DataW H × List MemPlace} (h : DataW.trod enc Tryz.prog W base spare held fuel 26 cs = some y) : ∃ (x : Tm) (p : TmP), cs = x.cells p ∧ TmA W p x ∧ TmG x := by
  obtain ⟨ys, n, _, _, hlen, hyl, hf⟩ := DataW.trod_struct Tryz.underlying26 h
  have h2 : cs.length = 5 := hlen.trans cTerms
  match cs, h2 with
  | [c0, c1, c2, c3, c4], _ =>
    match ys, hyl with
    | [y0, y1, y2, y3, y4], _ =>
      have g0 : DataW.trod enc Tryz.prog W base spare held n 22 [c0] = some y0 := by simpa [cItems1] using hf 0 _ rfl
      have g1 : DataW.trod enc Tryz.prog W base spare held n 23 [c1] = some y1 := by simpa [cLines1] using hf 1 _ rfl
      have g2 : DataW.trod enc Tryz.prog W base spare held n 24 [c2] = some y2 := by simpa [cMaybes1] using hf 2 _ rfl
      have g3 : DataW.trod enc Tryz.prog W base spare held n 3 [c3] = some y3 := by simpa [cInt] using hf 3 _ rfl
      have g4 : DataW.trod enc Tryz.prog W base spare held n 3 [c4] = some y4 := by simpa [cInt] using hf 4 _ rfl
      obtain ⟨ia, il, ic, e0⟩ := slice_form Tryz.underlying22 g0
      obtain ⟨la, ll, lc, e1⟩ := slice_form Tryz.underlying23 g1
      obtain ⟨ma, ml, mc, e2⟩ := slice_form Tryz.underlying24 g2
      rw [e0] at g0
      rw [e1] at g1
      rw [e2] at g2
      obtain ⟨I, rfl, hI, gI, hic⟩ := ims_read g0
      obtain ⟨l, rfl, hl, gl, _⟩ := lns_read g1
      obtain ⟨m, rfl, hm, gm, _⟩ := mbs_read g2
      obtain ⟨b, e3, _, w3⟩ := DataW.trod_int Tryz.underlying3 g3
      obtain ⟨d, e4, _, w4⟩ := DataW.trod_int Tryz.underlying3 g4
      simp at e0 e1 e2 e3 e4
      subst e0 e1 e2 e3 e4
      exact ⟨⟨I, l, m, b, d⟩, ⟨ia, ic, la, lc, ma, mc⟩, rfl, ⟨hI, hic, hl, hm⟩, ⟨gI, gl, gm, bounds_i64 w3, bounds_i64 w4⟩⟩
end
end Go.Proofs.YtklaonoekmhakaaGreat

namespace Go.Proofs.YtklaonoekmhakaaGreat
open Go.RowKit

theorem infoRow : (Tryz.prog.info? 115).map (fun i => (i.zero, i.size, i.bytes)) = some (some (.slice none 0 0), 1, 24) := by kernel_rfl
def noneV : Value := .slice none 0 0
theorem made_rows (k : Nat) : madeCells noneV.cells k = (List.replicate k noneV).toArray := by
  apply Array.ext
  · simp [madeCells]
  · intro i h1 h2
    simp [madeCells, noneV, Value.cells, Nat.mod_one]
theorem run_rows (n : Nat) (hn : n ≤ 1000) (W : World) : (Instr.makeSlice 111 (.int .i64 (n : Int)) (.int .i64 (n : Int))).run Tryz.prog W = .ok (.slice (some ⟨W.heap.size, 0, none⟩) n n) (W.alloc (.cells (List.replicate n noneV).toArray 115)) := by
  obtain ⟨i0, hi, hz0, hz1, hz2⟩ := info_parts infoRow
  rw [run_make W 111 115 i0 _ Tryz.underlying111 hi hz0 .i64 .i64 n n (by omega) (by omega) (by rw [hz2]; omega) (by omega), hz1]
  have := made_rows n
  unfold noneV at this ⊢
  rw [← this]; simp

/-- rows on their way -/
structure NwB (w0 w : World) (r : Nat) (I : List Im) (n k : Nat) (X : List Rw) : Prop where
  bel : Below w0.heap.size w0 w
  lo : w0.heap.size ≤ r
  rows : Has w r 115 (X.map Rw.val ++ List.replicate (n - k) noneV).toArray
  len : X.length = k
  le : k ≤ n
  ok : ∀ (i : Nat) x, X[i]? = some x → PrA w x.a x.R ∧ x.R.length ≤ x.cap ∧ ∃ y, I[i]? = some y ∧ x.R = [(0, y.pri)]
  may : ∀ (i : Nat) y, i < k → I[i]? = some y → imB y = true
section
variable {w0 w w' : World} {r n k : Nat} {I : List Im} {X : List Rw}
theorem NwB.up (h : NwB w0 w r I n k X) (q : Below w.heap.size w w') : NwB w0 w' r I n k X :=
  ⟨h.bel.trans (q.mono h.bel.size), h.lo, h.rows.up q, h.len, h.le, fun i x hx => ⟨(h.ok i x hx).1.up q, (h.ok i x hx).2⟩, h.may⟩
theorem NwB.noInt (h : NwB w0 w r I n k X) : NoInt w r := noInt_of h.rows fun v hv => by
  have hv : v ∈ X.map Rw.val ++ List.replicate (n - k) noneV := hv
  rcases List.mem_append.1 hv with hv | hv
  · obtain ⟨x, _, rfl⟩ := List.mem_map.1 hv
    exact ⟨_, _, _, rfl⟩
  · rw [(List.mem_replicate.1 hv).2]; exact ⟨_, _, _, rfl⟩
theorem NwB.cell (h : NwB w0 w r I n k X) (hk : k < n) : w.cell? ⟨r, k, none⟩ = some (.slice none 0 0) := by
  rw [h.rows.cell, List.getElem?_toArray, List.getElem?_append_right (by rw [List.length_map, h.len]; exact Nat.le_refl _), List.length_map, h.len, Nat.sub_self, List.getElem?_replicate, if_pos (by omega)]; rfl
/-- a row more -/
theorem NwB.more (h : NwB w0 w r I n k X) (hk : k < n) {y : Im} (hy : I[k]? = some y) (hm : imB y = true) :
    NwB w0 ((w.alloc (.cells #[.int .i64 0, .int .i64 y.pri] 114)).setCell ⟨r, k, none⟩ (.slice (some ⟨w.heap.size, 0, none⟩) 1 1)) r I n (k + 1) (X ++ [⟨some ⟨w.heap.size, 0, none⟩, 1, [(0, y.pri)]⟩]) := by
  have h1 := h.up (boxed w (.cells #[.int .i64 0, .int .i64 y.pri] 114))
  have hg := grown_set (w.alloc (.cells #[.int .i64 0, .int .i64 y.pri] 114)) r k (.slice (some ⟨w.heap.size, 0, none⟩) 1 1)
  have hf : PrA (w.alloc (.cells #[.int .i64 0, .int .i64 y.pri] 114)) (some ⟨w.heap.size, 0, none⟩) [(0, y.pri)] := by
    refine .inr ⟨_, _, rfl, fun i x hx j v hv => ?_⟩
    have hh := Has.fresh w 114 #[.int .i64 0, .int .i64 y.pri]
    match i, hx with
    | 0, hx =>
      obtain rfl : ((0 : Int), y.pri) = x := by simpa using hx
      rw [show 0 + 0 * 2 + j = j by omega, hh.cell]
      exact (List.getElem?_toArray (xs := prC (0, y.pri)) (i := j)).trans hv
  refine ⟨h1.bel.grown hg h1.bel.size (fun j hj => by injection hj with hj; have := h.lo; omega), h.lo, ?_, by simp [h.len], hk, fun i x hx => ?_, fun i z hi hz => ?_⟩
  · have h2 := h1.rows.put k (.slice (some ⟨w.heap.size, 0, none⟩) 1 1)
    rw [List.setIfInBounds_toArray] at h2
    have e : (X.map Rw.val ++ List.replicate (n - k) noneV).set k (.slice (some ⟨w.heap.size, 0, none⟩) 1 1) = (X ++ [(⟨some ⟨w.heap.size, 0, none⟩, 1, [(0, y.pri)]⟩ : Rw)]).map Rw.val ++ List.replicate (n - (k + 1)) noneV := by
      rw [List.set_append_right _ _ (by rw [List.length_map, h.len]; exact Nat.le_refl _), List.length_map, h.len, Nat.sub_self, show n - k = (n - (k + 1)) + 1 by omega, List.replicate_succ, List.set_cons_zero, List.map_append]
      simp [Rw.val]
    rw [e] at h2; exact h2
  · by_cases q : i < X.length
    · rw [List.getElem?_append_left q] at hx
      exact ⟨((h1.ok i x hx).1).off pr_int h1.noInt hg, (h1.ok i x hx).2⟩
    · rw [List.getElem?_append_right (by omega)] at hx
      have hl := (List.getElem?_eq_some_iff.1 hx).1
      simp at hl
      obtain rfl : i = k := by rw [← h.len]; omega
      rw [h.len, Nat.sub_self] at hx
      obtain rfl := Option.some.inj hx
      exact ⟨hf.off pr_int h1.noInt hg, Nat.le_refl _, y, hy, rfl⟩
  · by_cases q : i = k
    · subst q; rw [hy] at hz; obtain rfl := Option.some.inj hz; exact hm
    · exact h.may i z (by omega) hz
end
/-- what New answers -/
def BNewR (w : World) (I : List Im) (e : Ending) (w' : World) : Prop :=
  (bnewE I ≠ 0 ∧ e = .returned (.tuple #[.pointer none, .int .i64 (bnewE I)]) ∧ Below w.heap.size w w') ∨
  (bnewE I = 0 ∧ ∃ p r, e = .returned (.tuple #[.pointer (some ⟨p, 0, none⟩), .int .i64 0]) ∧ Bk w' p r ⟨I, []⟩ ∧ Below w.heap.size w w' ∧ w.heap.size ≤ r)
theorem fine_new {I : List Im} (hl : I.length ≤ 40) (hm : ∀ x ∈ I, imB x = true) (hp : ∀ x ∈ I, Am x.pri) : FineB ⟨I, []⟩ :=
  ⟨fun x hx => ⟨hm x hx, hp x hx⟩, hl, by simp, by simp, .nil, fun i => by simp [ofIt]⟩
theorem row_new {I : List Im} {i : Nat} {y : Im} (hy : I[i]? = some y) : RowOf ⟨I, []⟩ i [(0, y.pri)] := by
  have h0 : pri0 ⟨I, []⟩ i = y.pri := by
    unfold pri0
    show ((I[(i : Int).toNat]?).map Im.pri).getD 0 = _
    rw [show ((i : Int).toNat) = i by omega, hy]; rfl
  exact ⟨fun e => by rw [h0]; simp, by simp, rfl⟩
theorem NwB.book {w0 w : World} {r n : Nat} {I : List Im} {X : List Rw} {a : Option Addr} {c : Nat} (h : NwB w0 w r I n n X) (hn : I.length = n) (hl : n ≤ 40) (hp : ∀ x ∈ I, Am x.pri) (hI : ItA w a I) :
    Bk (w.alloc (.cells #[.slice a n c, .slice (some ⟨r, 0, none⟩) n n] 118)) w.heap.size r ⟨I, []⟩ ∧ Below w0.heap.size w0 (w.alloc (.cells #[.slice a n c, .slice (some ⟨r, 0, none⟩) n n] 118)) := by
  have hb := boxed w (.cells #[.slice a n c, .slice (some ⟨r, 0, none⟩) n n] 118)
  have h1 := h.up hb
  refine ⟨⟨a, c, X, ?_, ?_, by rw [h.len]; exact hn.symm, hI.up hb, fun i x hx => ?_, fine_new (by omega) (fun x hx => ?_) hp⟩, h1.bel⟩
  · show Has _ _ _ #[.slice a I.length c, .slice (some ⟨r, 0, none⟩) I.length I.length]
    rw [hn]; exact Has.fresh w _ _
  · have := h1.rows
    rw [Nat.sub_self, List.replicate_zero, List.append_nil] at this
    exact this
  · obtain ⟨h2, h3, y, h4, h5⟩ := h1.ok i x hx
    refine ⟨h2, h3, ?_⟩
    rw [h5]; exact row_new h4
  · obtain ⟨i, hi⟩ := List.getElem?_of_mem hx
    have := (List.getElem?_eq_some_iff.1 hi).1
    exact h.may i x (by omega) hi
theorem im_at {w : World} {a : Option Addr} {l : List Im} (h : ItA w a l) {j : Nat} {x : Im} (hx : l[j]? = some x) : ∃ b o, a = some ⟨b, o, none⟩ ∧ w.cell? ⟨b, o + j * 4, none⟩ = some (.int .i64 x.tag) ∧ w.cell? ⟨b, o + j * 4 + 1, none⟩ = some (.int .i64 x.grp) ∧ w.cell? ⟨b, o + j * 4 + 2, none⟩ = some (.int .i64 x.met) ∧ w.cell? ⟨b, o + j * 4 + 3, none⟩ = some (.int .i64 x.pri) := by
  rcases h with z | ⟨b, o, z, hz⟩
  · rw [z] at hx; simp at hx
  · exact ⟨b, o, z, hz j x hx 0 _ rfl, hz j x hx 1 _ rfl, hz j x hx 2 _ rfl, hz j x hx 3 _ rfl⟩
set_option maxRecDepth 100000 in
set_option maxHeartbeats 8000000 in
theorem bnew_any (a : Option Addr) (n cap : Nat) (I : List Im) (w : World) (hn : I.length = n) (hI : ItA w a I) (ha : a = none → cap = 0) (hp : ∀ x ∈ I, Am x.pri) :
    Calls Tryz.prog 32 #[.slice a n cap] w (BNewR w I) := by
  by_cases q1 : 40 < n
  · have hE : bnewE I = 4 := by unfold bnewE; rw [if_pos (by omega)]
    have q1' : (40 : Int) < (n : Int) := by omega
    unfold BNewR
    rw [hE]
    clear hn hI ha hp hE
    go_enter Tryz.func32, Tryz.ntmps32
    go_wp2_with fail
    go_ret2
    exact .inl ⟨by omega, rfl, Below.refl _ _⟩
  · have hE : bnewE I = if I.all imB = true then 0 else 1 := by unfold bnewE; rw [if_neg (by omega)]
    have hmk := run_rows n (by omega)
    have h0 : NwB w (w.alloc (.cells (List.replicate n noneV).toArray 115)) w.heap.size I n 0 [] := by
      refine ⟨boxed _ _, Nat.le_refl _, ?_, rfl, Nat.zero_le _, fun i x hx => by simp at hx, fun i y hi => by omega⟩
      exact Has.fresh w _ _
    obtain ⟨r, hr⟩ : ∃ r, r = w.heap.size := ⟨_, rfl⟩
    obtain ⟨C, hC⟩ : ∃ C, C = (List.replicate n noneV).toArray := ⟨_, rfl⟩
    rw [← hC] at hmk h0
    obtain ⟨W1, hW1⟩ : ∃ W1, W1 = w.alloc (.cells C 115) := ⟨_, rfl⟩
    rw [← hr] at h0
    rw [← hW1] at h0
    have H0 := Lib.hid h0
    have HR := Lib.hid hr
    have HW1 := Lib.hid hW1
    have HE := Lib.hid hE
    have HI := Lib.hid hI
    have HA := Lib.hid ha
    have HP := Lib.hid hp
    have HN := Lib.hid hn
    have hn40 : n ≤ 40 := by omega
    clear h0 hr hW1 hE hI ha hp hn q1 hC
    go_enter Tryz.func32, Tryz.ntmps32
    go_wp2_with fail
    rw [← HW1.out, ← HR.out]
    clear hmk
    go_loopw [15] (fun i wr => ∃ k : Nat, i = .int .i64 (k : Int) ∧ ∃ X, NwB w wr r I n k X) (fun i _ => n - (intOf i).toNat)
    case atStart => exact ⟨0, rfl, [], H0.out⟩
    case round =>
      obtain ⟨k, rfl, X, hX⟩ := hrel
      have HX := Lib.hid hX
      have hk := hX.le
      by_cases hlt : k < n
      · obtain ⟨y, hy⟩ : ∃ y, I[k]? = some y := ⟨I[k]'(by rw [HN.out]; exact hlt), List.getElem?_eq_getElem _⟩
        obtain ⟨b, o, hab, c0, c1, c2, c3⟩ := im_at (HI.out.up HX.out.bel) hy
        subst hab
        have HY := Lib.hid hy
        have cc := hX.cell hlt
        have cf := hX.rows.free k
        have hlr := hX.rows.lt
        clear hX hy
        go_wp2_with fail
        have hmb := mayBe_any y (wr.alloc (.cells #[.int .i64 y.tag, .int .i64 y.grp, .int .i64 y.met, .int .i64 y.pri] 72))
        unfold Im.val at hmb
        refine hmb.mono ?_
        rintro e w1 ⟨rfl, hb1⟩
        have d3 := kcell hb1 (show (wr.alloc (.cells #[.int .i64 y.tag, .int .i64 y.grp, .int .i64 y.met, .int .i64 y.pri] 72)).cell? ⟨wr.heap.size, 3, none⟩ = some (.int .i64 y.pri) by simp [go_sem])
        have HX1 := Lib.hid (HX.out.up (up2 (boxed _ _) hb1))
        clear hmb hb1 c0 c1 c2 c3 cc cf hlr
        have HE0 := HE.out
        cases q : imB y with
        | true =>
          have HQ := Lib.hid q
          have cc := HX1.out.cell hlt
          have cf := HX1.out.rows.free k
          have hlr := HX1.out.rows.lt
          clear q HE0
          go_wp2_with fail
          go_roundw
          case rel =>
            have hmore := HX1.out.more hlt HY.out HQ.out
            rw [World.setCell_alloc_past _ _ _ _ hlr] at hmore
            exact ⟨k + 1, by go_num, _, hmore⟩
          case measure => simp [intOf]; omega
        | false =>
          have hno : ¬ I.all imB = true := fun z => by
            have := List.all_eq_true.1 z y (List.mem_of_getElem? HY.out)
            rw [q] at this; cases this
          rw [if_neg hno] at HE0
          have HE1 := Lib.hid HE0
          clear q hno HE0
          go_wp2_with fail
          go_ret2
          refine .inl ⟨by rw [HE1.out]; omega, by rw [HE1.out]; rfl, HX1.out.bel⟩
      · obtain rfl : k = n := by omega
        have hyes : I.all imB = true := List.all_eq_true.2 fun x hx => by
          obtain ⟨i, hi⟩ := List.getElem?_of_mem hx
          have := (List.getElem?_eq_some_iff.1 hi).1
          exact HX.out.may i x (by rw [HN.out] at this; exact this) hi
        have HE0 := HE.out
        rw [if_pos hyes] at HE0
        have HE1 := Lib.hid HE0
        clear hX hyes HE0
        go_wp2_with fail
        refine (iclone_any a k cap I wr HN.out (by omega) (HI.out.up HX.out.bel) HA.out).mono ?_
        rintro e w1 ⟨v, rfl, a', c', rfl, hI', hb1⟩
        rw [HN.out]
        have HB := Lib.hid ((HX.out.up hb1).book (a := a') (c := c') HN.out (by omega) HP.out hI')
        have HX1 := Lib.hid (HX.out.up hb1)
        clear hI' hb1
        go_wp2_with fail
        go_ret2
        exact .inr ⟨HE1.out, _, _, rfl, HB.out.1, HB.out.2, HX.out.lo⟩
end Go.Proofs.YtklaonoekmhakaaGreat
