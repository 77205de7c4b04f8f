/- The reference's journal in memory: Append, whatever it is. -/
import Derived.Test.YtjffcgimdffkoaaGreatDoorQjE
namespace Go.Proofs.YtjffcgimdffkoaaGreatDoor
open Go.RowKit

theorem Turn.undraw {F : Nat → Prop} {w w' : World} {z : Nat} (h : Turn F (w.drewN z) w') : Turn F w w' := ⟨h.os, h.tape, h.output, h.size, h.block⟩
theorem Below.undraw {w w' : World} {z : Nat} (h : Below (w.drewN z).heap.size (w.drewN z) w') : Below w.heap.size w w' := ⟨h.os, h.tape, h.output, h.size, h.block⟩
theorem til_small {n h : Nat} (hn : n ≤ 4096) (hh : h ≤ 1) : til n h ≤ 4096 ∧ frm n h ≤ til n h ∧ 1 ≤ frm n h := by
  have := hlf_le hn
  have : h = 0 ∨ h = 1 := by omega
  rcases this with rfl | rfl <;> unfold til frm hlf at * <;> omega
/-- behind a lay that failed: the journal is broken -/
theorem Jr.broke {w w' : World} {K R q r z n : Nat} {v : Value} {s : SS} {j : JS} {S : SS × Int} {e : Ending} (H : Jr w K R q r v s j) (q0 : S.2 ≠ 0) (h : RLay (w.drewN z) K q r j.half j.next n v S e w') :
    e = .returned (.tuple #[.int .i64 (n : Int), .int .i64 S.2]) ∧ Jr w' K R q r v S.1 { j with br := true } ∧ Turn (fun k => k = K ∨ k = q ∨ k = r) w w' := by
  obtain ⟨h1, h2, h3, h4⟩ := h
  rw [show (S.2 != 0) = true by simpa using q0] at h3
  have t := h4.undraw
  exact ⟨h1, ⟨h3, H.recs.of fun cs hc => t.has hc (by have := H.ne; omega), h2, H.ne, Nat.lt_of_lt_of_le H.lt t.size⟩, t⟩
theorem RJoD.same {w w' : World} {K R q r : Nat} {v : Value} {s : SS} {j : JS} {E : Int} {e : Ending} (H : Jr w K R q r v s j) (he : e = .returned (.int .i64 E)) (hb : Below w.heap.size w w') : RJoD w K R q r (s, j, E) e w' :=
  ⟨he, ⟨R, v, .inl rfl, H.up hb⟩, Turn.of _ hb⟩

theorem rappend_any (w : World) (K R q r : Nat) (v : Value) (s : SS) (m : Int) (j : JS) (x : ByteArray) (H : Jr w K R q r v s j) (hF : Fine s m) (hm : m ≤ 800000) (ok : Okr s.n j) (hx : x.size ≤ maxLen) :
    Calls Tryz.prog 11 #[.pointer (some ⟨K, 0, none⟩), .string x] w (RJoD w K R q r (appS s j x.data.toList)) := by
  have hn := hF.hi
  have h3 := hF.lo
  have hK := H.head
  have hS := H.rt.span ok.half h3 hn
  have hts := til_small hn ok.half
  have hhi := ok.hi
  cases hbr : j.br with
  | true =>
    rw [hbr] at hK
    have e1 : appS s j x.data.toList = (s, j, 9) := by unfold appS; rw [if_pos hbr]
    rw [e1]
    refine (rapp_down w K q _ _ v x hK).mono ?_
    rintro e w' ⟨rfl, rfl⟩
    exact RJoD.same H rfl (Below.refl _ _)
  | false =>
    rw [hbr] at hK
    by_cases hf : full x.data.toList j.next (til s.n j.half)
    · have e1 : appS s j x.data.toList = (s, j, 4) := by unfold appS; rw [if_neg (by rw [hbr]; simp), if_pos hf]
      rw [e1]
      have hf' : 40000 < x.size ∨ til s.n j.half < j.next + nb x.size := by
        unfold full at hf
        rwa [list_size] at hf
      refine (rapp_err w K q j.half j.next _ _ v x 0 4 (fun w' => Below w.heap.size w w') hK hS (by decide) (fun z => ?_)).mono fun e w' h => RJoD.same H h.1 h.2
      refine (jlay_full (w.drewN z) K j.next _ x hx (by omega) (by omega) hf').mono fun e w' h => ⟨h.1, Below.undraw h.2⟩
    · have hf' : x.size ≤ 40000 ∧ j.next + nb x.size ≤ til s.n j.half := by
        unfold full at hf
        rw [list_size] at hf
        omega
      have hl : ∀ z, Calls Tryz.prog 37 #[.pointer (some ⟨K, 0, none⟩), .string x, .int .i64 (j.next : Int), .int .i64 ((til s.n j.half : Nat) : Int)] (w.drewN z) (RLay (w.drewN z) K q r j.half j.next (nb x.size) v (runW s (layW s.B x.data.toList j.next (til s.n j.half)))) := fun z =>
        jlay_any (w.drewN z) K q r j.half j.next j.next (til s.n j.half) v false x s m (hK.up ⟨rfl, rfl, rfl, Nat.le_refl _, fun _ _ => rfl⟩) (H.rt.drewN z) hF hm hf'.1 hf'.2 (til_le s.n j.half h3 ok.half)
      by_cases hr : (runW s (layW s.B x.data.toList j.next (til s.n j.half))).2 = 0
      · have e1 : appS s j x.data.toList = ((runW s (layW s.B x.data.toList j.next (til s.n j.half))).1, { j with L := j.L ++ [x.data.toList], next := j.next + nb x.data.toList.length }, 0) := by
          unfold appS; rw [if_neg (by rw [hbr]; simp), if_neg hf, if_pos hr]
        rw [e1]
        refine (rapp_ok w K R q r j.half j.next (nb x.size) _ _ v x (j.L.map str) (runW s (layW s.B x.data.toList j.next (til s.n j.half))).1 hK hS (fun z => (hl z).mono fun e w' h => ?_) H.recs H.ne (by simpa using ok.len) (by omega) (by have := nb_le hf'.1; omega)).mono ?_
        · obtain ⟨h1, h2, h3, h4⟩ := h
          rw [hr] at h1 h3
          exact ⟨h1, h2, h3, h4⟩
        · rintro e w' ⟨rfl, R', v', hR, hRl, hrt, hK', hrow, ht⟩
          have hq : K < w.heap.size ∧ q < w.heap.size ∧ r < w.heap.size := by
            obtain ⟨cap, T, hh, _⟩ := H.rt.head
            obtain ⟨cs, hc, _⟩ := H.rt.row
            exact ⟨H.head.lt, hh.lt, hc.lt⟩
          refine ⟨rfl, ⟨R', v', .inr hR, ⟨?_, ?_, hrt, by omega, hRl⟩⟩, ht⟩
          · show Has w' K _ (rcs q j.half (j.next + nb x.data.toList.length) v' j.br)
            rw [list_size, hbr]
            exact hK'
          · show Rw w' R' v' ((j.L ++ [x.data.toList]).map str)
            rw [List.map_append, List.map_singleton, str_of]
            exact hrow
      · have e1 : appS s j x.data.toList = ((runW s (layW s.B x.data.toList j.next (til s.n j.half))).1, { j with br := true }, (runW s (layW s.B x.data.toList j.next (til s.n j.half))).2) := by
          unfold appS; rw [if_neg (by rw [hbr]; simp), if_neg hf, if_neg hr]
        rw [e1]
        refine (rapp_err w K q j.half j.next _ _ v x (nb x.size) _ (fun w' => Jr w' K R q r v (runW s (layW s.B x.data.toList j.next (til s.n j.half))).1 { j with br := true } ∧ Turn (fun k => k = K ∨ k = q ∨ k = r) w w') hK hS hr (fun z => (hl z).mono fun e w' h => H.broke hr h)).mono ?_
        rintro e w' ⟨rfl, hj, ht⟩
        exact ⟨rfl, ⟨R, v, .inl rfl, hj⟩, ht⟩
end Go.Proofs.YtjffcgimdffkoaaGreatDoor

namespace Go.Proofs.YtjffcgimdffkoaaGreatDoor
open Go.RowKit

/-- the reference's journal's box and its store, as it is opened -/
structure Ro (w wr : World) (K q r h nx : Nat) (v : Value) (s : SS) : Prop where
  rt : Rt wr q r s
  k : Has wr K 69 (rcs q h nx v false)
  bel : Below w.heap.size w wr
theorem Ro.up {w wr w' : World} {K q r h nx : Nat} {v : Value} {s : SS} (H : Ro w wr K q r h nx v s) (k : Below wr.heap.size wr w') : Ro w w' K q r h nx v s := ⟨H.rt.up k, H.k.up k, up2 H.bel k⟩
theorem Ro.drew {w wr : World} {K q r h nx : Nat} {v : Value} {s : SS} (H : Ro w wr K q r h nx v s) : Ro w wr.drew K q r h nx v s := H.up ⟨rfl, rfl, rfl, Nat.le_refl _, fun _ _ => rfl⟩
def Q2 (w : World) (q r n cap i : Nat) (y : ByteArray) : Prop := w.cell? ⟨q, 0, none⟩ = some (.slice (some ⟨r, 0, none⟩) n cap) ∧ w.cell? ⟨r, i, none⟩ = some (.string y)
theorem Q2.up {w w' : World} {q r n cap i : Nat} {y : ByteArray} (H : Q2 w q r n cap i y) (k : Below w.heap.size w w') : Q2 w' q r n cap i y := ⟨kcell k H.1, kcell k H.2⟩
theorem Q2.drew {w : World} {q r n cap i : Nat} {y : ByteArray} (H : Q2 w q r n cap i y) : Q2 w.drew q r n cap i y := H
theorem Rt.q2 {w : World} {q r : Nat} {s : SS} (H : Rt w q r s) {i : Nat} (hi : i < s.n) : ∃ cap, s.n ≤ cap ∧ Q2 w q r s.n cap i (s.B i) := by
  obtain ⟨cap, T, hh, _⟩ := H.head
  obtain ⟨cs, hc, hl⟩ := H.row
  exact ⟨s.n + cap, Nat.le_add_right _ _, hh.cell 0, by rw [hc.cell]; exact hl _ hi⟩
theorem mark0_zero : mark0 0 = zs 64 := by rw [zs_str]; rfl
theorem zs_tail0 (g : Nat) : (⟨#[UInt8.ofNat g]⟩ : ByteArray) ++ (zs 64).extract 1 (zs 64).size = mark0 g := by
  have e : (zs 64).extract 1 (zs 64).size = str (List.replicate 63 0) := by rw [zs_size, zs_str, ext_str, str_list]; rfl
  rw [e]
  exact mark_head g
theorem mark0_first {h : Nat} (hh : h ≤ 1) : ∃ hz : 0 < (mark0 h).size, (((mark0 h)[0]'hz).toNat : Int) = (h : Int) := by
  refine ⟨by unfold mark0; rw [str_size]; simp, ?_⟩
  show ((UInt8.ofNat h).toNat : Int) = _
  rw [UInt8.toNat_ofNat']
  omega

set_option maxRecDepth 100000 in
set_option maxHeartbeats 4000000 in
theorem ropen_no (w : World) (q r : Nat) (s : SS) (m : Int) (hR : Rt w q r s) (hF : Fine s m) (h0 : s.B 0 ≠ mark0 0) (h1 : s.B 0 ≠ mark0 1) :
    Calls Tryz.prog 9 #[.pointer (some ⟨q, 0, none⟩)] w fun e w' => e = .returned (.tuple #[.pointer none, .int .i64 8]) ∧ Below w.heap.size w w' := by
  obtain ⟨Y, hY⟩ : ∃ Y, Y = s.B 0 := ⟨_, rfl⟩
  obtain ⟨N, hN⟩ : ∃ N, N = s.n := ⟨_, rfl⟩
  have hN3 : 3 ≤ N := by rw [hN]; exact hF.lo
  have hN0 : (0 : Int) < (N : Int) := by omega
  have hN1 : 0 < N := by omega
  obtain ⟨Z, hZ⟩ : ∃ Z, Z = zs 64 := ⟨_, rfl⟩
  have HZ : Hid (∀ W : World, Calls Tryz.prog 30 #[] W fun e w' => e = .returned (.string Z) ∧ Below W.heap.size W w') := fun W => by rw [hZ]; exact jzeros_any W
  have hYZ : Y ≠ Z := by rw [hY, hZ, ← mark0_zero]; exact h0
  have hq1 : (Y.toList == Z.toList) = false := by rw [strs_eq, decide_eq_false hYZ]
  have hq2 : (Y.toList != Z.toList) = true := by rw [bne, hq1]; rfl
  have hYM : Y ≠ ({ data := #[1] } : ByteArray) ++ Z.extract 1 Z.size := by
    rw [hY, hZ]
    intro e
    exact h1 (e.trans (zs_tail0 1))
  have hq3 : (Y.toList == (({ data := #[1] } : ByteArray) ++ Z.extract 1 Z.size).toList) = false := by rw [strs_eq, decide_eq_false hYM]
  have hq4 : (Y.toList != (({ data := #[1] } : ByteArray) ++ Z.extract 1 Z.size).toList) = true := by rw [bne, hq3]; rfl
  have z0 : Z.size = 64 := by rw [hZ]; exact zs_size 64
  have z1 : (1 : Int) ≤ (Z.size : Int) := by omega
  have z2 : ¬ (9223372036854775807 < 1 + (Z.extract 1 Z.size).size) := by rw [ByteArray.size_extract]; omega
  have z3 : ¬ (9223372036854775807 < 1 + (Z.size - 1)) := by omega
  have z5 : Z.size ≤ 64 := by omega
  obtain ⟨cap, _, hq⟩ := hR.q2 (i := 0) (by have := hF.lo; omega)
  rw [← hY, ← hN] at hq
  have HQ := Lib.hid hq
  have C3 := Lib.hid (hq.up (boxed w (.cells (rcs q 0 0 (.slice none 0 0) false) 69)))
  have B3 := Lib.hid (boxed w (.cells (rcs q 0 0 (.slice none 0 0) false) 69))
  obtain ⟨W1, hW1⟩ : ∃ W1, W1 = w.alloc (.cells (rcs q 0 0 (.slice none 0 0) false) 69) := ⟨_, rfl⟩
  rw [← hW1] at C3 B3
  have HW1 := Lib.hid hW1
  have hc := C3.out
  unfold Q2 at hc
  obtain ⟨k0, k1⟩ := hc
  clear hR hF h0 h1 hY hN hZ hYZ hYM z0 hq hW1 HQ
  unfold rcs at HW1
  go_enter Tryz.func9, Tryz.ntmps9
  go_wp2_with fail
  have hW : w.alloc (.cells #[.pointer (some ⟨q, 0, none⟩), .int .i64 0, .int .i64 0, .slice none 0 0, .bool false] 69) = W1 := HW1.out.symm
  rw [hW]
  clear hW
  go_region_held3 (fun w' => w'.cell? ⟨q, 0, none⟩ = some (.slice (some ⟨r, 0, none⟩) N cap) ∧ w'.cell? ⟨r, 0, none⟩ = some (.string Y))
    ((change Q2 _ q r N cap 0 Y; with_reducible (first | exact C3.out.drew | exact d1.out | exact d2.out)))
    (first | (go_at_call 30; ((with_reducible refine (HZ.out W1.drew).mono ?_); rintro e w2 ⟨rfl, g1⟩; have d1 := Lib.hid (C3.out.drew.up g1); have b1 := Lib.hid g1; clear g1)) | (go_at_call 30; ((with_reducible refine (HZ.out _).mono ?_); rintro e w3 ⟨rfl, g1⟩; have d2 := Lib.hid (d1.out.up g1); have b2 := Lib.hid g1; clear g1)))
  all_goals
    go_wp2_with fail
    go_ret2
    exact ⟨rfl, up2 (up2 (blw B3.out 1) b1.out) b2.out⟩
end Go.Proofs.YtjffcgimdffkoaaGreatDoor
