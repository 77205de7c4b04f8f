/- The reference's journal opened: its records. -/
import Derived.Test.YtjffcgimdffkoaaGreatDoorQjI
namespace Go.Proofs.YtjffcgimdffkoaaGreatDoor
open Go.RowKit

theorem Ro.off {w wr : World} {K q r h nx : Nat} {v : Value} {s : SS} (H : Ro w wr K q r h nx v s) (hK : w.heap.size ≤ K) (h' : Nat) : Ro w (wr.setCell ⟨K, 1, none⟩ (.int .i64 (h' : Int))) K q r h' nx v s := by
  have hn := H.rt.nbox H.k (by decide) (by decide)
  obtain ⟨cap, T, hh, ht⟩ := H.rt.head
  obtain ⟨cs, hc, hl⟩ := H.rt.row
  exact ⟨⟨⟨cap, T, hh.off (p := ⟨K, 1, none⟩) (Ne.symm hn.1) _, ht⟩, cs, hc.off (p := ⟨K, 1, none⟩) (Ne.symm hn.2) _, hl⟩, H.k.put 1 _, H.bel.setCell hK _⟩
theorem Ro.off3 {w wr : World} {K q r h nx : Nat} {v : Value} {s : SS} (H : Ro w wr K q r h nx v s) (hK : w.heap.size ≤ K) (u : Value) : Ro w (wr.setCell ⟨K, 3, none⟩ u) K q r h nx u s := by
  have hn := H.rt.nbox H.k (by decide) (by decide)
  obtain ⟨cap, T, hh, ht⟩ := H.rt.head
  obtain ⟨cs, hc, hl⟩ := H.rt.row
  exact ⟨⟨⟨cap, T, hh.off (p := ⟨K, 3, none⟩) (Ne.symm hn.1) _, ht⟩, cs, hc.off (p := ⟨K, 3, none⟩) (Ne.symm hn.2) _, hl⟩, H.k.put 3 _, H.bel.setCell hK _⟩
theorem Ro.off2 {w wr : World} {K q r h nx : Nat} {v : Value} {s : SS} (H : Ro w wr K q r h nx v s) (hK : w.heap.size ≤ K) (a : Nat) : Ro w (wr.setCell ⟨K, 2, none⟩ (.int .i64 (a : Int))) K q r h a v s := by
  have hn := H.rt.nbox H.k (by decide) (by decide)
  obtain ⟨cap, T, hh, ht⟩ := H.rt.head
  obtain ⟨cs, hc, hl⟩ := H.rt.row
  exact ⟨⟨⟨cap, T, hh.off (p := ⟨K, 2, none⟩) (Ne.symm hn.1) _, ht⟩, cs, hc.off (p := ⟨K, 2, none⟩) (Ne.symm hn.2) _, hl⟩, H.k.put 2 _, H.bel.setCell hK _⟩
theorem Turn.past2 {F F' : Nat → Prop} {w W w' : World} (b : Below w.heap.size w W) (t : Turn F W w') (h : ∀ k, k < w.heap.size → F k → F' k) : Turn F' w w' :=
  ⟨t.os.trans b.os, t.tape.trans b.tape, t.output.trans b.output, Nat.le_trans b.size t.size, fun k hk hn => (t.block k (Nat.lt_of_lt_of_le hk b.size) (fun z => hn (h k hk z))).trans (b.block k hk)⟩
set_option maxRecDepth 100000 in
set_option maxHeartbeats 1000000 in
theorem jzeros_all (w : World) : Calls Tryz.prog 30 #[] w fun e w' => e = .returned (.string (zs 64)) ∧ Below w.heap.size w w' ∧ w.heap.size < w'.heap.size := by
  have hmk : ∀ W : World, (Instr.makeSlice 46 (.int .i64 64) (.int .i64 64)).run Tryz.prog W = .ok (.slice (some ⟨W.heap.size, 0, none⟩) 64 64) (W.alloc (.cells (byA (List.replicate 64 0)) 5)) := fun W => make_zero 64 (by omega) W
  have hcv := conv_zero 64
  rw [zB_zs] at hcv
  obtain ⟨C, hC⟩ : ∃ C, C = byA (List.replicate 64 0) := ⟨_, rfl⟩
  obtain ⟨Z, hZ⟩ : ∃ Z, Z = zs 64 := ⟨_, rfl⟩
  rw [← hC, ← hZ] at hcv
  rw [← hZ]
  simp only [← hC] at hmk
  clear hC hZ
  go_enter Tryz.func30, Tryz.ntmps30
  go_wp2
  go_ret
  exact ⟨rfl, boxed _ _, by simp⟩
theorem jzeros_more (w : World) : Calls Tryz.prog 30 #[] w fun e w' => e = .returned (.string (zs 64)) ∧ Below w.heap.size w w' ∧ w.heap.size < w'.heap.size := jzeros_all w
/-- behind the reference's Open -/
def ROpn (w : World) (q r : Nat) (S : SS × Option JS × Int) (e : Ending) (w' : World) : Prop :=
  Turn (fun k => k = q ∨ k = r) w w' ∧ match S.2.1 with
  | none => e = .returned (.tuple #[.pointer none, .int .i64 S.2.2]) ∧ Rt w' q r S.1
  | some j => S.2.2 = 0 ∧ ∃ K R v, w.heap.size ≤ K ∧ w.heap.size ≤ R ∧ e = .returned (.tuple #[.pointer (some ⟨K, 0, none⟩), .int .i64 0]) ∧ Jr w' K R q r v S.1 j
theorem cnt_is {s : SS} {h : Nat} (hh : h ≤ 1) (hB : s.B 0 = mark0 h) : cntH s = h := by
  have : h = 0 ∨ h = 1 := by omega
  unfold cntH
  rcases this with rfl | rfl
  · rw [if_pos hB]
  · rw [if_neg (fun z => mark0_ne (z.symm.trans hB))]
theorem mark_or {s : SS} {h : Nat} (hh : h ≤ 1) (hB : s.B 0 = mark0 h) : s.B 0 = mark0 0 ∨ s.B 0 = mark0 1 := by
  have : h = 0 ∨ h = 1 := by omega
  rcases this with rfl | rfl
  · exact .inl hB
  · exact .inr hB
theorem Ro.bad {w wr : World} {K q r h nx : Nat} {v : Value} {s : SS} (H : Ro w wr K q r h nx v s) (hh : h ≤ 1) (hB : s.B 0 = mark0 h) (hs : scan s.B (til s.n h) (s.n + 1) (frm s.n h) = none) :
    ROpn w q r (openS s) (.returned (.tuple #[.pointer none, .int .i64 8])) wr := by
  have hc := cnt_is hh hB
  rw [read_none (mark_or hh hB) (by rw [hc]; exact hs)]
  exact ⟨Turn.of _ H.bel, rfl, H.rt⟩
/-- what Open has read -/
structure Rdd (w wr : World) (K q r h : Nat) (s : SS) (v : Value) (R a : Nat) (L : List (List UInt8)) : Prop where
  ro : Ro w wr K q r h 0 v s
  lo : w.heap.size ≤ R
  ne : R ≠ K ∧ R ≠ q ∧ R ≠ r
  lt : R < wr.heap.size
  row : Rw wr R v (L.map str)
  len : frm s.n h + L.length ≤ a
  hi : a ≤ til s.n h
  told : scan s.B (til s.n h) (s.n + 1) (frm s.n h) = some (L, a)
theorem Rdd.jr {w wr : World} {K q r h : Nat} {s : SS} {v : Value} {R a : Nat} {L : List (List UInt8)} (H : Rdd w wr K q r h s v R a L) (hK : w.heap.size ≤ K) : Jr (wr.setCell ⟨K, 2, none⟩ (.int .i64 (a : Int))) K R q r v s { half := h, next := a, L := L, br := false } := by
  have o := H.ro.off2 hK a
  exact ⟨o.k, H.row.of fun cs hc => hc.off (p := ⟨K, 2, none⟩) H.ne.1 _, o.rt, H.ne, by simpa [World.setCell] using H.lt⟩
theorem Rdd.good {w wr : World} {K q r h : Nat} {s : SS} {v : Value} {R a : Nat} {L : List (List UInt8)} (H : Rdd w wr K q r h s v R a L) (hK : w.heap.size ≤ K) (hh : h ≤ 1) (hB : s.B 0 = mark0 h) (hL : L ≠ []) :
    ROpn w q r (openS s) (.returned (.tuple #[.pointer (some ⟨K, 0, none⟩), .int .i64 0])) (wr.setCell ⟨K, 2, none⟩ (.int .i64 (a : Int))) := by
  have hc := cnt_is hh hB
  have hr := read_some (mark_or hh hB) (by rw [hc]; exact H.told)
  rw [hc] at hr
  have ho : openS s = (s, some { half := h, next := a, L := L, br := false }, 0) := by
    unfold openS
    rw [hr]
    simp only
    rw [if_neg hL]
  rw [ho]
  exact ⟨Turn.of _ (H.ro.off2 hK a).bel, rfl, K, R, v, hK, H.lo, rfl, H.jr hK⟩
theorem Rdd.okr {w wr : World} {K q r h : Nat} {s : SS} {v : Value} {R a : Nat} {L : List (List UInt8)} (H : Rdd w wr K q r h s v R a L) (hh : h ≤ 1) (hL : L = []) : Okr s.n { half := h, next := a, L := L, br := false } :=
  ⟨hh, by have := H.len; show frm s.n h ≤ a; omega, H.hi, by rw [hL]; simp⟩
theorem Rdd.laid0 {w wr w' : World} {K q r h : Nat} {s : SS} {v : Value} {R a : Nat} {L : List (List UInt8)} {e : Ending} (H : Rdd w wr K q r h s v R a L) (hK : w.heap.size ≤ K) (hh : h ≤ 1) (hB : s.B 0 = mark0 h) (hL : L = [])
    (g : RJoD (wr.setCell ⟨K, 2, none⟩ (.int .i64 (a : Int))) K R q r (appS s { half := h, next := a, L := L, br := false } []) e w') :
    e = .returned (.int .i64 (appS s { half := h, next := a, L := L, br := false } []).2.2) ∧ ((appS s { half := h, next := a, L := L, br := false } []).2.2 = 0 → ROpn w q r (openS s) (.returned (.tuple #[.pointer (some ⟨K, 0, none⟩), .int .i64 0])) w') ∧
      ((appS s { half := h, next := a, L := L, br := false } []).2.2 ≠ 0 → ROpn w q r (openS s) (.returned (.tuple #[.pointer none, .int .i64 (appS s { half := h, next := a, L := L, br := false } []).2.2])) w') := by
  have hc := cnt_is hh hB
  have hr := read_some (mark_or hh hB) (by rw [hc]; exact H.told)
  rw [hc] at hr
  obtain ⟨S, hS⟩ : ∃ S, S = appS s { half := h, next := a, L := L, br := false } [] := ⟨_, rfl⟩
  rw [← hS] at g ⊢
  obtain ⟨g1, ⟨R', v', hR, hj⟩, ht⟩ := g
  have hb := (H.ro.off2 hK a).bel
  have t : Turn (fun k => k = q ∨ k = r) w w' := Turn.past2 hb ht (fun k hk z => by rcases z with z | z; omega; exact z)
  have ho : openS s = if S.2.2 = 0 then (S.1, some S.2.1, 0) else (S.1, none, S.2.2) := by
    unfold openS
    rw [hr]
    simp only
    rw [if_pos hL, ← hS]
  refine ⟨g1, fun z => ?_, fun z => ?_⟩
  · rw [ho, if_pos z]
    have := hb.size
    exact ⟨t, rfl, K, R', v', hK, by have := H.lo; rcases hR with rfl | q'; omega; omega, rfl, hj⟩
  · rw [ho, if_neg z]
    exact ⟨t, rfl, hj.rt⟩
theorem scan_un (B : Nat → ByteArray) (e f a : Nat) : scan B e (f + 1) a = if e ≤ a then some ([], a) else if (headA (bl B a)).2.2 ≠ 0 then none else if (headA (bl B a)).1 = false then some ([], a) else if e < a + nb (headA (bl B a)).2.1 then none
    else if (joinA (blks B a (nb (headA (bl B a)).2.1))).2 ≠ 0 then none else match scan B e f (a + nb (headA (bl B a)).2.1) with
      | none => none
      | some (l, q) => some ((joinA (blks B a (nb (headA (bl B a)).2.1))).1 :: l, q) := rfl
theorem Ro.drewN {w wr : World} {K q r h nx : Nat} {v : Value} {s : SS} (H : Ro w wr K q r h nx v s) (n : Nat) : Ro w (wr.drewN n) K q r h nx v s := H.up ⟨rfl, rfl, rfl, Nat.le_refl _, fun _ _ => rfl⟩
theorem Rdd.drewN {w wr : World} {K q r h : Nat} {s : SS} {v : Value} {R a : Nat} {L : List (List UInt8)} (H : Rdd w wr K q r h s v R a L) (n : Nat) : Rdd w (wr.drewN n) K q r h s v R a L := ⟨H.ro.drewN n, H.lo, H.ne, H.lt, H.row, H.len, H.hi, H.told⟩
/-- at the loop's head -/
structure RoL (w wr : World) (K q r h : Nat) (s : SS) (F e a : Nat) : Prop where
  ex : ∃ (v : Value) (R : Nat) (L : List (List UInt8)) (f : Nat), Ro w wr K q r h 0 v s ∧ w.heap.size ≤ R ∧ (R ≠ K ∧ R ≠ q ∧ R ≠ r) ∧ R < wr.heap.size ∧ Rw wr R v (L.map str) ∧ F + L.length ≤ a ∧ e - a < f ∧ scan s.B e (s.n + 1) F = goOn L (scan s.B e f a)

set_option maxRecDepth 100000 in
set_option maxHeartbeats 3000000 in
theorem ropen_half (w : World) (q r h : Nat) (s : SS) (m : Int) (hR : Rt w q r s) (hF : Fine s m) (hm : m ≤ 800000) (hh : h ≤ 1) (hB : s.B 0 = mark0 h) :
    Calls Tryz.prog 9 #[.pointer (some ⟨q, 0, none⟩)] w (ROpn w q r (openS s)) := by
  obtain ⟨Y, hY⟩ : ∃ Y, Y = s.B 0 := ⟨_, rfl⟩
  obtain ⟨N, hN⟩ : ∃ N, N = s.n := ⟨_, rfl⟩
  have hN3 : 3 ≤ N := by rw [hN]; exact hF.lo
  have hN4 : N ≤ 4096 := by rw [hN]; exact hF.hi
  have hN0 : (0 : Int) < (N : Int) := by omega
  have hN1 : 0 < N := by omega
  obtain ⟨Z, hZ⟩ : ∃ Z, Z = zs 64 := ⟨_, rfl⟩
  have HZ : Hid (∀ W : World, Calls Tryz.prog 30 #[] W fun e w' => e = .returned (.string Z) ∧ (Below W.heap.size W w' ∧ W.heap.size < w'.heap.size)) := fun W => by rw [hZ]; exact jzeros_more W
  obtain ⟨hz, hb⟩ := mark0_first hh
  have hYB : ∃ hz : 0 < Y.size, ((Y[0]'hz).toNat : Int) = (h : Int) := by rw [hY, hB]; exact ⟨hz, hb⟩
  have hYZ : (h = 0 ∧ Y = Z) ∨ (h = 1 ∧ Y ≠ Z ∧ Y = ({ data := #[1] } : ByteArray) ++ Z.extract 1 Z.size) := by
    have : h = 0 ∨ h = 1 := by omega
    rcases this with rfl | rfl
    · exact .inl ⟨rfl, by rw [hY, hB, hZ, mark0_zero]⟩
    · exact .inr ⟨rfl, by rw [hY, hB, hZ, ← mark0_zero]; exact fun z => mark0_ne z.symm, by rw [hY, hB, hZ]; exact (zs_tail0 1).symm⟩
  have z0 : Z.size = 64 := by rw [hZ]; exact zs_size 64
  have z1 : (1 : Int) ≤ (Z.size : Int) := by omega
  have z2 : ¬ (9223372036854775807 < 1 + (Z.extract 1 Z.size).size) := by rw [ByteArray.size_extract]; omega
  have z3 : ¬ (9223372036854775807 < 1 + (Z.size - 1)) := by omega
  have z5 : Z.size ≤ 64 := by omega
  have hl := boxed w (.cells (rcs q 0 0 (.slice none 0 0) false) 69)
  have hO : Ro w (w.alloc (.cells (rcs q 0 0 (.slice none 0 0) false) 69)) w.heap.size q r 0 0 (.slice none 0 0) s := ⟨hR.up hl, Has.fresh w 69 _, hl⟩
  obtain ⟨W1, hW1⟩ : ∃ W1, W1 = w.alloc (.cells (rcs q 0 0 (.slice none 0 0) false) 69) := ⟨_, rfl⟩
  obtain ⟨K, hK⟩ : ∃ K, K = w.heap.size := ⟨_, rfl⟩
  rw [← hW1, ← hK] at hO
  have HO := Lib.hid hO
  have HR0 := Lib.hid hR
  obtain ⟨cap, hcap, hq⟩ := hO.rt.q2 (i := 0) (by have := hF.lo; omega)
  rw [← hY, ← hN] at hq
  have C3 := Lib.hid hq
  have hc := C3.out
  unfold Q2 at hc
  obtain ⟨k0, k1⟩ := hc
  have HW1 := Lib.hid hW1
  have HK := Lib.hid hK
  have HE := Lib.hid (And.intro hY (And.intro hN (And.intro hB hh)))
  have HF := Lib.hid hF
  have HYB := Lib.hid hYB
  clear hR hF hB hY hN hZ z0 hq hW1 hK hl hO hz hb hcap hYB
  unfold rcs at HW1
  go_enter Tryz.func9, Tryz.ntmps9
  go_wp2_with fail
  have hW : w.alloc (.cells #[.pointer (some ⟨q, 0, none⟩), .int .i64 0, .int .i64 0, .slice none 0 0, .bool false] 69) = W1 := HW1.out.symm
  have hKk : w.heap.size = K := HK.out.symm
  rw [hW, hKk]
  clear hW hKk
  go_cut [36] (fun s36 wx => s36 = .bool false ∧ Hid (Ro w wx K q r 0 0 (.slice none 0 0) s ∧ W1.heap.size < wx.heap.size))
  case first =>
    rcases hYZ with ⟨hh0, hYZ⟩ | ⟨hh1, hYZ, hYM⟩
    · have hq1 : (Y.toList == Z.toList) = true := by rw [strs_eq, decide_eq_true hYZ]
      have hq2 : (Y.toList != Z.toList) = false := by rw [bne, hq1]; rfl
      clear hYZ hh0
      refine wp_region_noPanic ?_
      refine wp_region_held_drew (S := fun w' => w'.cell? ⟨q, 0, none⟩ = some (.slice (some ⟨r, 0, none⟩) N cap) ∧ w'.cell? ⟨r, 0, none⟩ = some (.string Y)) (by kernel_rfl) ?hS0 (fun hHeld => ?rest0)
      case hS0 => exact C3.out
      case' rest0 =>
        refine wpAnyH_take (i := 0) (oi := ?o0) (v := ?v0) ?i0 (by kernel_rfl) (by kernel_rfl) (by kernel_rfl) (fun _ _ _ h => h) (Or.inl ⟨?w0, ?h0⟩) (by assumption) ?r0
        case i0 => simp only [List.getElem?_toArray, List.getElem?_cons_zero]; rfl
        case w0 => rfl
        case h0 => (intro w hSw; (try dsimp only at hSw); go_simp; try (with_reducible rfl))
        case' r0 => simp only [Act.put, List.setIfInBounds_toArray, List.set_cons_zero, List.set_cons_succ]
        refine wpAnyH_take (i := 1) (oi := ?o1) (v := ?v1) ?i1 (by kernel_rfl) (by kernel_rfl) (by kernel_rfl) (fun _ _ _ h => h) (Or.inl ⟨?w1, ?h1⟩) (by assumption) ?r1
        case i1 => simp only [List.getElem?_toArray, List.getElem?_cons_succ, List.getElem?_cons_zero]; rfl
        case w1 => rfl
        case h1 => (intro w hSw; (try dsimp only at hSw); go_simp; try (with_reducible rfl))
        case' r1 => simp only [Act.put, List.setIfInBounds_toArray, List.set_cons_zero, List.set_cons_succ]
        refine wpAnyH_take (i := 2) (oi := ?o2) (v := ?v2) ?i2 (by kernel_rfl) (by kernel_rfl) (by kernel_rfl) (fun _ _ _ h => h) (Or.inl ⟨?w2, ?h2⟩) (by assumption) ?r2
        case i2 => simp only [List.getElem?_toArray, List.getElem?_cons_succ, List.getElem?_cons_zero]; rfl
        case w2 => rfl
        case h2 => (intro w hSw; (try dsimp only at hSw); go_simp; try (with_reducible rfl))
        case' r2 => simp only [Act.put, List.setIfInBounds_toArray, List.set_cons_zero, List.set_cons_succ]
        refine wpAnyH_take (i := 3) (oi := ?o3) (v := ?v3) ?i3 (by kernel_rfl) (by kernel_rfl) (by kernel_rfl) (fun _ _ _ h => h) (Or.inl ⟨?w3, ?h3⟩) (by assumption) ?r3
        case i3 => simp only [List.getElem?_toArray, List.getElem?_cons_succ, List.getElem?_cons_zero]; rfl
        case w3 => rfl
        case h3 => (intro w hSw; (try dsimp only at hSw); go_simp; try (with_reducible rfl))
        case' r3 => simp only [Act.put, List.setIfInBounds_toArray, List.set_cons_zero, List.set_cons_succ]
        refine wpAnyH_take (i := 4) (oi := ?o4) (v := ?v4) ?i4 (by kernel_rfl) (by kernel_rfl) (by kernel_rfl) (fun _ _ _ h => h) (Or.inl ⟨?w4, ?h4⟩) (by assumption) ?r4
        case i4 => simp only [List.getElem?_toArray, List.getElem?_cons_succ, List.getElem?_cons_zero]; rfl
        case w4 => rfl
        case h4 => (intro w hSw; (try dsimp only at hSw); go_simp; try (with_reducible rfl))
        case' r4 => simp only [Act.put, List.setIfInBounds_toArray, List.set_cons_zero, List.set_cons_succ]
        refine wpAnyH_take (i := 5) (oi := ?o5) (v := ?v5) ?i5 (by kernel_rfl) (by kernel_rfl) (by kernel_rfl) (fun _ _ _ h => h) (Or.inl ⟨?w5, ?h5⟩) (by assumption) ?r5
        case i5 => simp only [List.getElem?_toArray, List.getElem?_cons_succ, List.getElem?_cons_zero]; rfl
        case w5 => rfl
        case h5 => (intro w hSw; (try dsimp only at hSw); go_simp; try (with_reducible rfl))
        case' r5 => simp only [Act.put, List.setIfInBounds_toArray, List.set_cons_zero, List.set_cons_succ]
        refine wpAnyH_ready (rs := [6]) (by kernel_rfl) (by simp) ?_
        refine AllReadyH.cons (o := ?o6) ?i6 (fun K6 hK6 => ?step6) AllReadyH.nil
        case i6 => simp only [List.getElem?_toArray, List.getElem?_cons_succ, List.getElem?_cons_zero]; rfl
        refine step_told rfl 30 #[] (by go_simp) (HZ.out _) ?_
        intro w2 g1
        have D1 := Lib.hid (C3.out.drew.up g1.1)
        have O1 := Lib.hid (And.intro (HO.out.drew.up g1.1) g1.2)
        refine hK6.out _ _ D1.out (fun hHeld6 => ?_)
        simp only [Act.put, List.setIfInBounds_toArray, List.set_cons_zero, List.set_cons_succ]
        clear hK6 K6 hHeld g1
        refine wpAnyH_take (i := 7) (oi := ?o7) (v := ?v7) ?i7 (by kernel_rfl) (by kernel_rfl) (by kernel_rfl) (fun _ _ _ h => h) (Or.inl ⟨?w7, ?h7⟩) (by assumption) ?r7
        case i7 => simp only [List.getElem?_toArray, List.getElem?_cons_succ, List.getElem?_cons_zero]; rfl
        case w7 => rfl
        case h7 => (intro w hSw; (try dsimp only at hSw); go_simp; try (with_reducible rfl))
        case' r7 => simp only [Act.put, List.setIfInBounds_toArray, List.set_cons_zero, List.set_cons_succ]
        refine wpAnyH_take (i := 8) (oi := ?o8) (v := ?v8) ?i8 (by kernel_rfl) (by kernel_rfl) (by kernel_rfl) (fun _ _ _ h => h) (Or.inl ⟨?w8, ?h8⟩) (by assumption) ?r8
        case i8 => simp only [List.getElem?_toArray, List.getElem?_cons_succ, List.getElem?_cons_zero]; rfl
        case w8 => rfl
        case h8 => (intro w hSw; (try dsimp only at hSw); go_simp; try (with_reducible rfl))
        case' r8 => simp only [Act.put, List.setIfInBounds_toArray, List.set_cons_zero, List.set_cons_succ]
        refine wpAnyH_take (i := 9) (oi := ?o9) (v := undef) ?i9 (by kernel_rfl) (by kernel_rfl) (by kernel_rfl) (fun _ _ _ h => h) (Or.inr ⟨?w9, rfl⟩) (by assumption) ?r9
        case i9 => simp only [List.getElem?_toArray, List.getElem?_cons_succ, List.getElem?_cons_zero]; rfl
        case w9 => rfl
        case' r9 => simp only [Act.put, List.setIfInBounds_toArray, List.set_cons_zero, List.set_cons_succ]
        refine wpAnyH_take (i := 10) (oi := ?o10) (v := undef) ?i10 (by kernel_rfl) (by kernel_rfl) (by kernel_rfl) (fun _ _ _ h => h) (Or.inr ⟨?w10, rfl⟩) (by assumption) ?r10
        case i10 => simp only [List.getElem?_toArray, List.getElem?_cons_succ, List.getElem?_cons_zero]; rfl
        case w10 => rfl
        case' r10 => simp only [Act.put, List.setIfInBounds_toArray, List.set_cons_zero, List.set_cons_succ]
        refine wpAnyH_take (i := 11) (oi := ?o11) (v := undef) ?i11 (by kernel_rfl) (by kernel_rfl) (by kernel_rfl) (fun _ _ _ h => h) (Or.inr ⟨?w11, rfl⟩) (by assumption) ?r11
        case i11 => simp only [List.getElem?_toArray, List.getElem?_cons_succ, List.getElem?_cons_zero]; rfl
        case w11 => rfl
        case' r11 => simp only [Act.put, List.setIfInBounds_toArray, List.set_cons_zero, List.set_cons_succ]
        refine wpAnyH_take (i := 12) (oi := ?o12) (v := undef) ?i12 (by kernel_rfl) (by kernel_rfl) (by kernel_rfl) (fun _ _ _ h => h) (Or.inr ⟨?w12, rfl⟩) (by assumption) ?r12
        case i12 => simp only [List.getElem?_toArray, List.getElem?_cons_succ, List.getElem?_cons_zero]; rfl
        case w12 => rfl
        case' r12 => simp only [Act.put, List.setIfInBounds_toArray, List.set_cons_zero, List.set_cons_succ]
        refine wpAnyH_take (i := 13) (oi := ?o13) (v := undef) ?i13 (by kernel_rfl) (by kernel_rfl) (by kernel_rfl) (fun _ _ _ h => h) (Or.inr ⟨?w13, rfl⟩) (by assumption) ?r13
        case i13 => simp only [List.getElem?_toArray, List.getElem?_cons_succ, List.getElem?_cons_zero]; rfl
        case w13 => rfl
        case' r13 => simp only [Act.put, List.setIfInBounds_toArray, List.set_cons_zero, List.set_cons_succ]
        refine wpAnyH_take (i := 14) (oi := ?o14) (v := undef) ?i14 (by kernel_rfl) (by kernel_rfl) (by kernel_rfl) (fun _ _ _ h => h) (Or.inr ⟨?w14, rfl⟩) (by assumption) ?r14
        case i14 => simp only [List.getElem?_toArray, List.getElem?_cons_succ, List.getElem?_cons_zero]; rfl
        case w14 => rfl
        case' r14 => simp only [Act.put, List.setIfInBounds_toArray, List.set_cons_zero, List.set_cons_succ]
        refine wpAnyH_take (i := 15) (oi := ?o15) (v := undef) ?i15 (by kernel_rfl) (by kernel_rfl) (by kernel_rfl) (fun _ _ _ h => h) (Or.inr ⟨?w15, rfl⟩) (by assumption) ?r15
        case i15 => simp only [List.getElem?_toArray, List.getElem?_cons_succ, List.getElem?_cons_zero]; rfl
        case w15 => rfl
        case' r15 => simp only [Act.put, List.setIfInBounds_toArray, List.set_cons_zero, List.set_cons_succ]
        refine wpAnyH_take (i := 16) (oi := ?o16) (v := undef) ?i16 (by kernel_rfl) (by kernel_rfl) (by kernel_rfl) (fun _ _ _ h => h) (Or.inr ⟨?w16, rfl⟩) (by assumption) ?r16
        case i16 => simp only [List.getElem?_toArray, List.getElem?_cons_succ, List.getElem?_cons_zero]; rfl
        case w16 => rfl
        case' r16 => simp only [Act.put, List.setIfInBounds_toArray, List.set_cons_zero, List.set_cons_succ]
        refine wpAnyH_take (i := 17) (oi := ?o17) (v := undef) ?i17 (by kernel_rfl) (by kernel_rfl) (by kernel_rfl) (fun _ _ _ h => h) (Or.inr ⟨?w17, rfl⟩) (by assumption) ?r17
        case i17 => simp only [List.getElem?_toArray, List.getElem?_cons_succ, List.getElem?_cons_zero]; rfl
        case w17 => rfl
        case' r17 => simp only [Act.put, List.setIfInBounds_toArray, List.set_cons_zero, List.set_cons_succ]
        refine wpAnyH_take (i := 18) (oi := ?o18) (v := undef) ?i18 (by kernel_rfl) (by kernel_rfl) (by kernel_rfl) (fun _ _ _ h => h) (Or.inr ⟨?w18, rfl⟩) (by assumption) ?r18
        case i18 => simp only [List.getElem?_toArray, List.getElem?_cons_succ, List.getElem?_cons_zero]; rfl
        case w18 => rfl
        case' r18 => simp only [Act.put, List.setIfInBounds_toArray, List.set_cons_zero, List.set_cons_succ]
        refine wpAnyH_take (i := 19) (oi := ?o19) (v := ?v19) ?i19 (by kernel_rfl) (by kernel_rfl) (by kernel_rfl) (fun _ _ _ h => h) (Or.inl ⟨?w19, ?h19⟩) (by assumption) ?r19
        case i19 => simp only [List.getElem?_toArray, List.getElem?_cons_succ, List.getElem?_cons_zero]; rfl
        case w19 => rfl
        case h19 => (intro w hSw; (try dsimp only at hSw); go_simp; try (with_reducible rfl))
        case' r19 => simp only [Act.put, List.setIfInBounds_toArray, List.set_cons_zero, List.set_cons_succ]
        refine wpAnyH_done (by kernel_rfl) ?_ _
        refine NoPanic.normal ?_
        go_wp2_with fail
        go_meet
        exact ⟨rfl, O1.out⟩
    · have hq1 : (Y.toList == Z.toList) = false := by rw [strs_eq, decide_eq_false hYZ]
      have hq2 : (Y.toList != Z.toList) = true := by rw [bne, hq1]; rfl
      have hq3 : (Y.toList == (({ data := #[1] } : ByteArray) ++ Z.extract 1 Z.size).toList) = true := by rw [strs_eq, decide_eq_true hYM]
      have hq4 : (Y.toList != (({ data := #[1] } : ByteArray) ++ Z.extract 1 Z.size).toList) = false := by rw [bne, hq3]; rfl
      clear hYZ hYM hh1
      go_region_held3 (fun w' => w'.cell? ⟨q, 0, none⟩ = some (.slice (some ⟨r, 0, none⟩) N cap) ∧ w'.cell? ⟨r, 0, none⟩ = some (.string Y))
        ((change Q2 _ q r N cap 0 Y; with_reducible (first | exact C3.out.drew | exact d1.out | exact d2.out)))
        (first | (go_at_call 30; ((with_reducible refine (HZ.out W1.drew).mono ?_); rintro e w2 ⟨rfl, g1, g2⟩; have d1 := Lib.hid (C3.out.drew.up g1); have b1 := Lib.hid (And.intro (HO.out.drew.up g1) g2); clear g1 g2)) | (go_at_call 30; ((with_reducible refine (HZ.out _).mono ?_); rintro e w3 ⟨rfl, g1, g2⟩; have d2 := Lib.hid (d1.out.up g1); have b2 := Lib.hid (And.intro (b1.out.1.up g1) (Nat.lt_of_lt_of_le b1.out.2 g1.size)); clear g1 g2)))
      all_goals
        go_wp2_with fail
        go_meet
        exact ⟨rfl, b2.out⟩
  case rest =>
    obtain ⟨rfl, H2⟩ := hcut
    obtain ⟨cap2, hcap2, hq2⟩ := H2.out.1.rt.q2 (i := 0) (by rw [← HE.out.2.1]; exact hN1)
    rw [← HE.out.1, ← HE.out.2.1] at hq2
    obtain ⟨d0, d1⟩ := hq2
    obtain ⟨hz, hb⟩ := HYB.out
    have e1 : World.cell? _ ⟨K, 1, none⟩ = some (.int .i64 0) := H2.out.1.k.cell 1
    have f1 := H2.out.1.k.free 1
    have HKK := Lib.hid (show w.heap.size ≤ K by rw [HK.out]; exact Nat.le_refl _)
    have h3 := H2.out.1.off HKK.out h
    have hks : K + 1 < (wc.setCell ⟨K, 1, none⟩ (.int .i64 (h : Int))).heap.size := by
      have := H2.out.2
      rw [HW1.out] at this
      simp [World.setCell] at this ⊢
      rw [HK.out]
      exact this
    obtain ⟨W4, hW4⟩ : ∃ W4, W4 = wc.setCell ⟨K, 1, none⟩ (.int .i64 (h : Int)) := ⟨_, rfl⟩
    rw [← hW4] at h3 hks
    obtain ⟨F, hFe⟩ : ∃ F, F = frm s.n h := ⟨_, rfl⟩
    obtain ⟨T, hTe⟩ : ∃ T, T = til s.n h := ⟨_, rfl⟩
    have hft := til_small HF.out.hi HE.out.2.2.2
    have HS : Hid (Calls Tryz.prog 31 #[.pointer (some ⟨q, 0, none⟩), .int .i64 (h : Int)] W4 fun e w' => e = .returned (.tuple #[.int .i64 (F : Int), .int .i64 (T : Int)]) ∧ W4 = w') := by
      rw [hFe, hTe]
      exact span_any W4 q r h s h3.rt HE.out.2.2.2 HF.out.lo HF.out.hi
    rw [← hFe, ← hTe] at hft
    have hTN : T ≤ N := by rw [hTe, HE.out.2.1]; exact til_le s.n h HF.out.lo HE.out.2.2.2
    have HFT := Lib.hid (And.intro hFe hTe)
    have hT0 := hft.1
    have hF0 := hft.2.1
    have HI0 : Hid (RoL w W4 K q r h s F T F) := by
      obtain ⟨cap, _, hh, _⟩ := HR0.out.head
      obtain ⟨cs, hc, _⟩ := HR0.out.row
      have hq := hh.lt
      have hr := hc.lt
      rw [← HK.out] at hq hr
      refine ⟨.slice none 0 0, K + 1, [], s.n + 1, h3, by have := HKK.out; omega, by omega, hks, .inl ⟨rfl, rfl⟩, by simp, by have := HE.out.2.1; omega, ?_⟩
      cases scan s.B T (s.n + 1) F <;> rfl
    have HW4 := Lib.hid hW4
    clear HO C3 k0 k1 hYZ z1 z2 z3 z5 HZ HW1 hcap2 hft h3 hks hW4 hFe hTe
    go_wp2_with fail
    rw [← HW4.out]
    refine HS.out.mono ?_
    rintro e w' ⟨rfl, rfl⟩
    clear d0 d1 e1 f1 hz hb HS H2
    go_wp2_with fail
    go_loopw [5] (fun va wr => ∃ a : Nat, F ≤ a ∧ a ≤ T ∧ va = .int .i64 (a : Int) ∧ Hid (RoL w wr K q r h s F T a)) (fun va _ => T - (intOf va).toNat)
    case atStart => exact ⟨F, Nat.le_refl _, hF0, rfl, HI0⟩
    case round =>
      obtain ⟨a, ha0, ha1, rfl, HI⟩ := hrel
      clear HI0
      obtain ⟨v9, R, L, f, ro, l1, l2, l3, l4, l5, l6, l7⟩ := HI.out.ex
      obtain ⟨f, rfl⟩ : ∃ g, f = g + 1 := ⟨f - 1, by omega⟩
      by_cases hlt : a < T
      · obtain ⟨cap3, hcap3, hq3⟩ := ro.rt.q2 (i := a) (by rw [← HE.out.2.1]; omega)
        rw [← HE.out.2.1] at hcap3 hq3
        obtain ⟨X, hX⟩ : ∃ X, X = s.B a := ⟨_, rfl⟩
        rw [← hX] at hq3
        obtain ⟨d0, d1⟩ := hq3
        have haN : (a : Int) < (N : Int) := by omega
        have haT : (a : Int) < (T : Int) := by omega
        rw [scan_un s.B T f a, if_neg (by omega)] at l7
        have hbx : bl s.B a = X.data.toList := by rw [hX]; rfl
        rw [hbx] at l7
        have h4 := headA_le X.data.toList
        have hC := rhead_any X wr
        obtain ⟨b1, n1, e1, hh1⟩ : ∃ b1 n1 e1, headA X.data.toList = (b1, n1, e1) := ⟨_, _, _, rfl⟩
        rw [hh1] at l7 h4 hC
        simp only at l7 h4
        have HC : Hid (Calls Tryz.prog 32 #[.string X] wr fun e w' => e = .returned (.tuple #[.bool b1, .int .i64 (n1 : Int), .int .i64 (e1 : Int)]) ∧ ∃ n, w' = wr.drewN n) := hC
        have HO := Lib.hid (And.intro ro (And.intro l1 (And.intro l2 (And.intro l3 (And.intro l4 (And.intro l5 l6))))))
        by_cases he : e1 = 0
        · subst he
          rw [if_neg (by simp)] at l7
          cases b1 with
          | false =>
            rw [if_pos rfl] at l7
            have HD1 : Hid (Rdd w wr K q r h s v9 R a L) := ⟨ro, l1, l2, l3, l4, by rw [← HFT.out.1]; exact l5, by rw [← HFT.out.2]; exact ha1, by rw [← HFT.out.1, ← HFT.out.2, l7]; simp [goOn]⟩
            clear ro l1 l2 l3 l4 l5 l6 l7 hX hbx hh1 hC h4 hcap3 HI HO
            go_wp2_with fail
            refine HC.out.mono ?_
            rintro e w2 ⟨rfl, nq, rfl⟩
            have HD := Lib.hid (HD1.out.drewN nq)
            clear HD1 d0 d1 HC
            have e2 : World.cell? _ ⟨K, 2, none⟩ = some (.int .i64 0) := HD.out.ro.k.cell 2
            have f2 := HD.out.ro.k.free 2
            obtain ⟨A9, L9, C9, hv9⟩ := HD.out.row.slc
            obtain ⟨a9, c9, hv8, _, _, _⟩ := HD.out.row.form
            have e3 : World.cell? _ ⟨K, 3, none⟩ = some v9 := HD.out.ro.k.cell 3
            by_cases hL : L = []
            · have hv7 : v9 = .slice a9 0 c9 := by rw [hv8, hL]; rfl
              subst hv7
              have HJ := Lib.hid (rappend_any _ K R q r _ s m { half := h, next := a, L := L, br := false } ⟨#[]⟩ (HD.out.jr HKK.out) HF.out hm (HD.out.okr HE.out.2.2.2 hL) (by show 0 ≤ maxLen; unfold maxLen; omega))
              have HN := Lib.hid (fun (e : Ending) (w' : World) (g : RJoD _ K R q r (appS s { half := h, next := a, L := L, br := false } []) e w') => HD.out.laid0 HKK.out HE.out.2.2.2 HE.out.2.2.1 hL g)
              obtain ⟨E, hE⟩ : ∃ E, E = (appS s { half := h, next := a, L := L, br := false } []).2.2 := ⟨_, rfl⟩
              rw [← hE] at HN
              have HJ2 : Hid (Calls Tryz.prog 11 #[.pointer (some ⟨K, 0, none⟩), .string ⟨#[]⟩] _ fun e w' => e = .returned (.int .i64 E) ∧ (E = 0 → ROpn w q r (openS s) (.returned (.tuple #[.pointer (some ⟨K, 0, none⟩), .int .i64 0])) w') ∧ (E ≠ 0 → ROpn w q r (openS s) (.returned (.tuple #[.pointer none, .int .i64 E])) w')) := HJ.out.mono fun e w' g => HN.out e w' g
              clear HJ HN hE hL hv8 hv9
              by_cases hE0 : E = 0
              · have hE1 : (E != 0) = false := by rw [hE0]; rfl
                have HQ := Lib.hid hE0
                clear hE0
                go_wp2_with fail
                refine HJ2.out.mono ?_
                rintro e w9 ⟨rfl, g1, g2⟩
                have G := Lib.hid (g1 HQ.out)
                clear g1 g2
                go_wp2_with fail
                go_ret2
                exact G.out
              · have hE1 : (E != 0) = true := by simpa using hE0
                have HQ := Lib.hid hE0
                clear hE0
                go_wp2_with fail
                refine HJ2.out.mono ?_
                rintro e w9 ⟨rfl, g1, g2⟩
                have G := Lib.hid (g2 HQ.out)
                clear g1 g2
                go_wp2_with fail
                go_ret2
                exact G.out
            · have hl9 : ∃ l, L.length = l + 1 := ⟨L.length - 1, by cases L with
                | nil => exact absurd rfl hL
                | cons x L => simp⟩
              obtain ⟨l9, hl9⟩ := hl9
              have hv7 : v9 = .slice a9 (l9 + 1) c9 := by rw [hv8, List.length_map, hl9]
              subst hv7
              have G := Lib.hid (HD.out.good HKK.out HE.out.2.2.2 HE.out.2.2.1 hL)
              have hne : ¬ ((l9 : Int) + 1 = 0) := by omega
              clear hL hv8 hv9 hl9
              go_wp2_with fail
              go_ret2
              exact G.out
          | true =>
            rw [if_neg (by simp)] at l7
            obtain ⟨k, hk⟩ : ∃ k, k = nb n1 := ⟨_, rfl⟩
            have k0 : 0 < k := by rw [hk]; exact nb_pos _
            have k1 : k ≤ 626 := by rw [hk]; exact nb_le h4
            have HBk : Hid (∀ W : World, Calls Tryz.prog 33 #[.int .i64 (n1 : Int)] W fun e w' => e = .returned (.int .i64 (k : Int)) ∧ W = w') := fun W => by
              have := rblk_any (n1 : Int) W
              rwa [nbI_is h4, ← hk] at this
            rw [← hk] at l7
            obtain ⟨a2, ha2⟩ : ∃ a2, a2 = a + k := ⟨_, rfl⟩
            have hw1 : IntKind.i64.wrap ((a : Int) + (k : Int)) = (a2 : Int) := by rw [ha2, IntWalk.i64_in _ (by omega)]; omega
            rw [← ha2] at l7
            have Ha2 := Lib.hid ha2
            have q1 : a < a2 := by omega
            have q2 : a2 ≤ a + 626 := by omega
            by_cases hov : T < a2
            · rw [if_pos hov] at l7
              have HB : Hid (scan s.B (til s.n h) (s.n + 1) (frm s.n h) = none) := by
                show _ = none
                rw [← HFT.out.1, ← HFT.out.2, l7]
                rfl
              have hov1 : (T : Int) < (a2 : Int) := by omega
              clear ro l1 l2 l3 l4 l5 l6 l7 hX hbx hh1 hC h4 hcap3 HI hk ha2 hov
              go_wp2_with fail
              refine HC.out.mono ?_
              rintro e w2 ⟨rfl, nq, rfl⟩
              go_wp2_with fail
              refine (HBk.out _).mono ?_
              rintro e w' ⟨rfl, rfl⟩
              go_wp2_with fail
              go_ret2
              exact (HO.out.1.drewN nq).bad HE.out.2.2.2 HE.out.2.2.1 HB.out
            · rw [if_neg hov] at l7
              obtain ⟨xs, hxs⟩ : ∃ xs, xs = (List.range k).map fun i => s.B (a + i) := ⟨_, rfl⟩
              have hxl : xs.length = k := by rw [hxs]; simp
              have hrows : rows xs = blks s.B a k := by rw [hxs]; unfold rows blks; rw [List.map_map]; rfl
              have hsz : ∀ x ∈ xs, x.size ≤ maxLen := by
                intro x hx
                rw [hxs] at hx
                obtain ⟨i, hi, rfl⟩ := List.mem_map.mp hx
                have hi2 := List.mem_range.mp hi
                rw [HF.out.sz (a + i) (by have := HE.out.2.1; omega)]
                unfold maxLen; omega
              obtain ⟨y1, f1, hj1⟩ : ∃ y1 f1, joinA (blks s.B a k) = (y1, f1) := ⟨_, _, rfl⟩
              rw [hj1] at l7
              simp only at l7
              obtain ⟨y, hy⟩ : ∃ y, y = str y1 := ⟨_, rfl⟩
              have HJn : Hid (∀ (W : World) (c : Nat), Rt W q r s → Calls Tryz.prog 34 #[.slice (some ⟨r, a, none⟩) (a2 - a) c] W fun e w' => e = .returned (.tuple #[.string y, .int .i64 (f1 : Int)]) ∧ Below W.heap.size W w') := fun W c hr => by
                have hS : Strs W r a xs := fun i x hx => by
                  have hi : i < k := by
                    by_cases z : i < xs.length
                    · omega
                    · rw [List.getElem?_eq_none (by omega)] at hx; cases hx
                  obtain ⟨cs, hc, hl⟩ := hr.row
                  rw [hc.cell, hl (a + i) (by have := HE.out.2.1; omega)]
                  rw [hxs, List.getElem?_map, List.getElem?_range hi] at hx
                  exact congrArg (fun z => some (Value.string z)) (Option.some.inj hx)
                have := rjoin_any r a c xs W hS (by omega) hsz
                rw [hrows, hj1, hxl] at this
                rw [hy, show a2 - a = k by omega]
                exact this
              have q3 : (a2 : Int) ≤ (T : Int) := by omega
              have q4 : ¬ cap3 = a := by omega
              have q5 : a2 ≤ cap3 := by omega
              have q6 : (a2 : Int) - (a : Int) = (k : Int) := by omega
              by_cases hf1 : f1 = 0
              · subst hf1
                rw [if_neg (by simp)] at l7
                have hov1 : ¬ ((T : Int) < (a2 : Int)) := by omega
                have HL := Lib.hid (And.intro l5 (And.intro l6 (And.intro l7 (And.intro hy (And.intro k0 ha2)))))
                clear ro l1 l2 l3 l4 l5 l6 l7 hX hbx hh1 hC h4 hcap3 HI hk ha2 hov hxs hxl hrows hsz hj1 hy
                go_wp2_with fail
                refine HC.out.mono ?_
                rintro e w2 ⟨rfl, nq, rfl⟩
                go_wp2_with fail
                refine (HBk.out _).mono ?_
                rintro e w' ⟨rfl, rfl⟩
                go_wp2_with fail
                refine (HJn.out _ _ (HO.out.1.drewN nq).rt).mono ?_
                rintro e w3 ⟨rfl, hb3⟩
                have b3 : Below wr.heap.size wr w3 := ⟨hb3.os, hb3.tape, hb3.output, hb3.size, hb3.block⟩
                have o3 := HO.out.1.up b3
                obtain ⟨W5, hW5⟩ : ∃ W5, W5 = w3.alloc (.cells #[.string y] 9) := ⟨_, rfl⟩
                have b5 : Below w3.heap.size w3 W5 := by rw [hW5]; exact boxed _ _
                have y5 : W5.cell? ⟨w3.heap.size, 0, none⟩ = some (.string y) := by rw [hW5]; exact (Has.fresh w3 9 #[.string y]).cell 0
                have row5 := (HO.out.2.2.2.2.1.up b3).up b5
                obtain ⟨R', v6, w6, run6, hRR, hRlt, row6, t6⟩ := row5.app 49 (by
                  have := HO.out.2.2.2.2.2.1
                  simp; omega) w3.heap.size y y5
                obtain ⟨A6, L6, C6, rfl⟩ := row6.slc
                have o5 := o3.up b5
                have hlt5 : R < W5.heap.size := Nat.lt_of_lt_of_le HO.out.2.2.2.1 (Nat.le_trans b3.size b5.size)
                have o6 : Ro w w6 K q r h 0 v9 s := by
                  obtain ⟨cp, Tt, hh9, ht9⟩ := o5.rt.head
                  obtain ⟨cs, hc9, hl9⟩ := o5.rt.row
                  have hne := HO.out.2.2.1
                  exact ⟨⟨⟨cp, Tt, t6.has hh9 (fun z => hne.2.1 z.symm), ht9⟩, cs, t6.has hc9 (fun z => hne.2.2 z.symm), hl9⟩, t6.has o5.k (fun z => hne.1 z.symm), o5.bel.trans (t6.below o5.bel.size (fun z hz => by have := HO.out.2.1; omega))⟩
                have k6 := o6.k.lt
                have d3 : w6.cell? ⟨K, 3, none⟩ = some v9 := o6.k.cell 3
                have f3 := o6.k.free 3
                have k3 : w3.cell? ⟨K, 3, none⟩ = some v9 := o3.k.cell 3
                have kz := o3.k.lt
                have HNw : Hid (RoL w (w6.setCell ⟨K, 3, none⟩ (.slice A6 L6 C6)) K q r h s F T a2) := by
                  have hk5 := o5.k.lt
                  have hn5 := o5.rt.nbox o5.k (by decide) (by decide)
                  obtain ⟨cp, Tt, hh9, _⟩ := o5.rt.head
                  obtain ⟨cs, hc9, _⟩ := o5.rt.row
                  have z1 := hh9.lt
                  have z2 := hc9.lt
                  have z3 := o5.bel.size
                  have z4 := HO.out.2.1
                  have z5 := HO.out.2.2.1
                  have hRn : R' ≠ K ∧ R' ≠ q ∧ R' ≠ r := by rcases hRR with rfl | z; exact z5; omega
                  obtain ⟨m1, m2, m3, m4, m5, m6⟩ := HL.out
                  refine ⟨.slice A6 L6 C6, R', L ++ [y1], f, o6.off3 HKK.out _, by rcases hRR with rfl | z; exact z4; omega, hRn, by simpa [World.setCell] using hRlt, ?_, ?_, ?_, ?_⟩
                  · rw [List.map_append, List.map_singleton, ← m4]
                    exact row6.of fun cs hc => hc.off (p := ⟨K, 3, none⟩) hRn.1 _
                  · simp; omega
                  · omega
                  · rw [m3]
                    cases scan s.B T f a2 with
                    | none => rfl
                    | some z => simp [goOn]
                have HRun := Lib.hid run6
                have HW5 := Lib.hid hW5
                clear hb3 b3 o3 hW5 b5 y5 row5 run6 hRR hRlt row6 t6 o5 hlt5 o6 HO HL HC
                go_wp2_with (first | (at_builtin; rw [← HW5.out]; refine Lib.wpList_append_run _ rfl (.tmp 102) (.tmp 104) 49 49 rfl v9 (.slice (some ⟨w3.heap.size, 0, none⟩) 1 1) rfl rfl (.slice A6 L6 C6) w6 HRun.out ?_))
                go_roundw
                case rel => exact ⟨a2, by omega, by omega, by go_num, HNw⟩
                case measure => simp [intOf]; omega
              · rw [if_pos hf1] at l7
                have HB : Hid (scan s.B (til s.n h) (s.n + 1) (frm s.n h) = none) := by
                  show _ = none
                  rw [← HFT.out.1, ← HFT.out.2, l7]
                  rfl
                have hf2 : ((f1 : Int) != 0) = true := by simp; omega
                have hov1 : ¬ ((T : Int) < (a2 : Int)) := by omega
                clear ro l1 l2 l3 l4 l5 l6 l7 hX hbx hh1 hC h4 hcap3 HI hk ha2 hov hxs hxl hrows hsz hj1 hy hf1
                go_wp2_with fail
                refine HC.out.mono ?_
                rintro e w2 ⟨rfl, nq, rfl⟩
                go_wp2_with fail
                refine (HBk.out _).mono ?_
                rintro e w' ⟨rfl, rfl⟩
                go_wp2_with fail
                refine (HJn.out _ _ (HO.out.1.drewN nq).rt).mono ?_
                rintro e w3 ⟨rfl, hb3⟩
                have O3 := Lib.hid ((HO.out.1.drewN nq).up hb3)
                clear hb3
                go_wp2_with fail
                go_ret2
                exact O3.out.bad HE.out.2.2.2 HE.out.2.2.1 HB.out
        · have he1 : ((e1 : Int) != 0) = true := by simp; omega
          rw [if_pos he] at l7
          have HB : Hid (scan s.B (til s.n h) (s.n + 1) (frm s.n h) = none) := by
            show _ = none
            rw [← HFT.out.1, ← HFT.out.2, l7]
            rfl
          clear ro l1 l2 l3 l4 l5 l6 l7 he hX hbx hh1 hC h4 hcap3 HI
          go_wp2_with fail
          refine HC.out.mono ?_
          rintro e w2 ⟨rfl, nq, rfl⟩
          go_wp2_with fail
          go_ret2
          exact (HO.out.1.drewN nq).bad HE.out.2.2.2 HE.out.2.2.1 HB.out
      · have hat : a = T := by omega
        have haT : ¬ ((a : Int) < (T : Int)) := by omega
        rw [scan_un s.B T f a, if_pos (by omega)] at l7
        have HD : Hid (Rdd w wr K q r h s v9 R a L) := ⟨ro, l1, l2, l3, l4, by rw [← HFT.out.1]; exact l5, by rw [← HFT.out.2]; exact ha1, by rw [← HFT.out.1, ← HFT.out.2, l7]; simp [goOn]⟩
        clear ro l1 l2 l3 l4 l5 l6 l7 hat HI hlt
        have e2 : World.cell? _ ⟨K, 2, none⟩ = some (.int .i64 0) := HD.out.ro.k.cell 2
        have f2 := HD.out.ro.k.free 2
        obtain ⟨A9, L9, C9, hv9⟩ := HD.out.row.slc
        obtain ⟨a9, c9, hv8, _, _, _⟩ := HD.out.row.form
        have e3 : World.cell? _ ⟨K, 3, none⟩ = some v9 := HD.out.ro.k.cell 3
        by_cases hL : L = []
        · have hv7 : v9 = .slice a9 0 c9 := by rw [hv8, hL]; rfl
          subst hv7
          have HJ := Lib.hid (rappend_any _ K R q r _ s m { half := h, next := a, L := L, br := false } ⟨#[]⟩ (HD.out.jr HKK.out) HF.out hm (HD.out.okr HE.out.2.2.2 hL) (by show 0 ≤ maxLen; unfold maxLen; omega))
          have HN := Lib.hid (fun (e : Ending) (w' : World) (g : RJoD _ K R q r (appS s { half := h, next := a, L := L, br := false } []) e w') => HD.out.laid0 HKK.out HE.out.2.2.2 HE.out.2.2.1 hL g)
          obtain ⟨E, hE⟩ : ∃ E, E = (appS s { half := h, next := a, L := L, br := false } []).2.2 := ⟨_, rfl⟩
          rw [← hE] at HN
          have HJ2 : Hid (Calls Tryz.prog 11 #[.pointer (some ⟨K, 0, none⟩), .string ⟨#[]⟩] _ fun e w' => e = .returned (.int .i64 E) ∧ (E = 0 → ROpn w q r (openS s) (.returned (.tuple #[.pointer (some ⟨K, 0, none⟩), .int .i64 0])) w') ∧ (E ≠ 0 → ROpn w q r (openS s) (.returned (.tuple #[.pointer none, .int .i64 E])) w')) := HJ.out.mono fun e w' g => HN.out e w' g
          clear HJ HN hE hL hv8 hv9
          by_cases hE0 : E = 0
          · have hE1 : (E != 0) = false := by rw [hE0]; rfl
            have HQ := Lib.hid hE0
            clear hE0
            go_wp2_with fail
            refine HJ2.out.mono ?_
            rintro e w9 ⟨rfl, g1, g2⟩
            have G := Lib.hid (g1 HQ.out)
            clear g1 g2
            go_wp2_with fail
            go_ret2
            exact G.out
          · have hE1 : (E != 0) = true := by simpa using hE0
            have HQ := Lib.hid hE0
            clear hE0
            go_wp2_with fail
            refine HJ2.out.mono ?_
            rintro e w9 ⟨rfl, g1, g2⟩
            have G := Lib.hid (g2 HQ.out)
            clear g1 g2
            go_wp2_with fail
            go_ret2
            exact G.out
        · have hl9 : ∃ l, L.length = l + 1 := ⟨L.length - 1, by cases L with
            | nil => exact absurd rfl hL
            | cons x L => simp⟩
          obtain ⟨l9, hl9⟩ := hl9
          have hv7 : v9 = .slice a9 (l9 + 1) c9 := by rw [hv8, List.length_map, hl9]
          subst hv7
          have G := Lib.hid (HD.out.good HKK.out HE.out.2.2.2 HE.out.2.2.1 hL)
          have hne : ¬ ((l9 : Int) + 1 = 0) := by omega
          clear hL hv8 hv9 hl9
          go_wp2_with fail
          go_ret2
          exact G.out
end Go.Proofs.YtjffcgimdffkoaaGreatDoor
