/- A journal in memory: Append. -/
import Derived.Test.YtjffcgimdffkoaaGreatDoorJnL
namespace Go.Proofs.YtjffcgimdffkoaaGreatDoor
open Go.RowKit

theorem Turn.in4 {J p b R : Nat} {w w' : World} (h : Turn (fun k => k = J ∨ k = p ∨ k = b) w w') : Turn (fun k => k = J ∨ k = p ∨ k = b ∨ k = R) w w' :=
  h.mono fun k _ q => by rcases q with q | q | q <;> simp [q]
theorem nb_le {k : Nat} (h : k ≤ 40000) : nb k ≤ 626 := by unfold nb; omega
theorem nbI_is {k : Nat} (h : k ≤ 40000) : nbI k = (nb k : Int) := by unfold nbI nb; rw [if_neg (by omega)]; omega
theorem frm_til (n h : Nat) : til n h = 1 + h * hlf n + hlf n := rfl
def Jc4 (w : World) (J p h k u : Nat) : Prop := w.cell? ⟨J, 0, none⟩ = some (.pointer (some ⟨p, 0, none⟩)) ∧ w.cell? ⟨J, 1, none⟩ = some (.int .i64 (h : Int)) ∧ w.cell? ⟨J, 2, none⟩ = some (.int .i64 (k : Int)) ∧ w.cell? ⟨J, 3, none⟩ = some (.int .i64 (u : Int))
theorem Has.jc4 {w : World} {J p h k u : Nat} {t : ByteArray} {v : Value} {br : Bool} (H : Has w J 66 (jcs p h k u t v br)) : Jc4 w J p h k u := ⟨H.cell 0, H.cell 1, H.cell 2, H.cell 3⟩

/-- behind lay -/
def LayR (w : World) (J p b h k u : Nat) (t : ByteArray) (v : Value) (E : Int) (S : SS) (br : Bool) (m : Int) (e : Ending) (w' : World) : Prop :=
  e = .returned (.int .i64 E) ∧ At w' p b S m ∧ Has w' J 66 (jcs p h k u t v br) ∧ Turn (fun k => k = J ∨ k = p ∨ k = b) w w'
theorem Turn.drew' {F : Nat → Prop} {w w' : World} (h : Turn F w.drew w') : Turn F w w' := ⟨h.os, h.tape, h.output, h.size, h.block⟩
theorem Has.drew1 {w : World} {g t : Nat} {cs : Array Value} (h : Has w g t cs) : Has w.drew g t cs := h

set_option maxRecDepth 100000 in
set_option maxHeartbeats 2000000 in
theorem append_err (w : World) (J p b h k u : Nat) (t x : ByteArray) (v : Value) (br br' : Bool) (E : Int) (S : SS) (m : Int) (hJ : Has w J 66 (jcs p h k u t v br)) (hE : E ≠ 0)
    (hL : Calls Tryz.prog 35 #[.pointer (some ⟨J, 0, none⟩), .agg #[.pointer (some ⟨p, 0, none⟩), .int .i64 (h : Int), .int .i64 (k : Int)], .int .i64 (u : Int), .string x, .slice none 0 0] w.drew (LayR w.drew J p b h k u t v E S br' m)) :
    Calls Tryz.prog 10 #[.pointer (some ⟨J, 0, none⟩), .string x] w (LayR w J p b h k u t v E S br' m) := by
  have hE0 : (E != 0) = true := by simpa using hE
  have C4 := hJ.jc4
  unfold Jc4 at C4
  obtain ⟨c0, c1, c2, c3⟩ := C4
  have HL := Lib.hid hL
  clear hL hJ hE
  go_enter Tryz.func10, Tryz.ntmps10
  go_wp2_with fail
  go_region_held3 (fun w' => w'.cell? ⟨J, 0, none⟩ = some (.pointer (some ⟨p, 0, none⟩)) ∧ w'.cell? ⟨J, 1, none⟩ = some (.int .i64 (h : Int)) ∧ w'.cell? ⟨J, 2, none⟩ = some (.int .i64 (k : Int)) ∧ w'.cell? ⟨J, 3, none⟩ = some (.int .i64 (u : Int)))
    (first | (go_keep; done) | (change Jc4 _ J p h k u; with_reducible exact k1.out.jc4))
    (first | (go_at_call 35; ((with_reducible refine HL.out.mono ?_); rintro e w1 ⟨rfl, g1, g2, g3⟩; have k0 := Lib.hid g1; have k1 := Lib.hid g2; have k2 := Lib.hid g3; clear g1 g2 g3)))
  all_goals
    clear c0 c1 c2 c3
    go_wp2
    go_ret
    exact ⟨rfl, k0.out, k1.out, k2.out.drew'⟩

/-- behind an Append that is fine -/
def AppR (w : World) (J R p b h k u : Nat) (t : ByteArray) (xs : List ByteArray) (S : SS) (m : Int) (e : Ending) (w' : World) : Prop :=
  e = .returned (.int .i64 0) ∧ At w' p b S m ∧ (∃ R' v', (R' = R ∨ w.heap.size ≤ R') ∧ R' < w'.heap.size ∧ Has w' J 66 (jcs p h k u t v' false) ∧ Rw w' R' v' xs) ∧ Turn (fun k => k = J ∨ k = p ∨ k = b ∨ k = R) w w'
theorem Rw.slc {w : World} {R : Nat} {v : Value} {xs : List ByteArray} (h : Rw w R v xs) : ∃ a l c, v = .slice a l c := by
  rcases h with ⟨h, _⟩ | ⟨o, c, cs, h, _⟩
  · exact ⟨_, _, _, h⟩
  · exact ⟨_, _, _, h⟩
set_option maxRecDepth 100000 in
set_option maxHeartbeats 2000000 in
theorem append_ok (w : World) (J R p b h k u : Nat) (t x : ByteArray) (v : Value) (xs : List ByteArray) (br : Bool) (S : SS) (m : Int) (hJ : Has w J 66 (jcs p h k u t v br)) (hR : Rw w R v xs) (hRl : R < w.heap.size) (hR2 : R ≠ J ∧ R ≠ p ∧ R ≠ b) (hn : xs.length ≤ 100000) (hx : x.size ≤ 40000) (hu : u ≤ 5000)
    (hL : Calls Tryz.prog 35 #[.pointer (some ⟨J, 0, none⟩), .agg #[.pointer (some ⟨p, 0, none⟩), .int .i64 (h : Int), .int .i64 (k : Int)], .int .i64 (u : Int), .string x, .slice none 0 0] w.drew (LayR w.drew J p b h k u t v 0 S false m)) :
    Calls Tryz.prog 10 #[.pointer (some ⟨J, 0, none⟩), .string x] w (AppR w J R p b h k (u + nb x.size) t (xs ++ [x]) S m) := by
  obtain ⟨q, hq⟩ : ∃ q, q = nb x.size := ⟨_, rfl⟩
  have hq0 : q ≤ 626 := by rw [hq]; exact nb_le hx
  have HB : Hid (∀ W : World, Calls Tryz.prog 36 #[.int .i64 (x.size : Int)] W fun e w' => e = .returned (.int .i64 (q : Int)) ∧ W = w') := fun W => by
    have := blk_any x.size W
    rwa [nbI_is hx, ← hq] at this
  rw [← hq]
  have e1 : IntKind.i64.wrap ((u : Int) + (q : Int)) = ((u + q : Nat) : Int) := by
    rw [show ((u + q : Nat) : Int) = (u : Int) + (q : Int) by omega]; exact IntWalk.i64_in _ (by omega)
  have C4 := hJ.jc4
  unfold Jc4 at C4
  obtain ⟨c0, c1, c2, c3⟩ := C4
  have HL := Lib.hid hL
  have HR := Lib.hid hR
  have HR2 := Lib.hid hR2
  have HRl := Lib.hid hRl
  clear hL hJ hR hR2 hRl hq
  go_enter Tryz.func10, Tryz.ntmps10
  go_wp2_with fail
  go_region_held3 (fun w' => w'.cell? ⟨J, 0, none⟩ = some (.pointer (some ⟨p, 0, none⟩)) ∧ w'.cell? ⟨J, 1, none⟩ = some (.int .i64 (h : Int)) ∧ w'.cell? ⟨J, 2, none⟩ = some (.int .i64 (k : Int)) ∧ w'.cell? ⟨J, 3, none⟩ = some (.int .i64 (u : Int)))
    (first | (go_keep; done) | (change Jc4 _ J p h k u; with_reducible exact k1.out.jc4))
    (first | (go_at_call 35; ((with_reducible refine HL.out.mono ?_); rintro e w1 ⟨rfl, g1, g2, g3⟩; have k0 := Lib.hid g1; have k1 := Lib.hid g2; have k2 := Lib.hid g3.drew'; clear g1 g2 g3)))
  all_goals
    clear c0 c1 c2 c3
    have c3 : w1.cell? ⟨J, 3, none⟩ = some (.int .i64 (u : Int)) := k1.out.cell 3
    have f3 := k1.out.free 3
    go_wp2_with fail
    go_region_with (first | (go_at_call 36; ((with_reducible refine (HB.out _).mono ?_); rintro e w2 ⟨rfl, rfl⟩)))
    all_goals
      obtain ⟨W3, hW3⟩ : ∃ W3, W3 = (w1.setCell ⟨J, 3, none⟩ (.int .i64 ((u : Int) + (q : Int)))).drew := ⟨_, rfl⟩
      rw [← hW3]
      have h3 : Has W3 J 66 (jcs p h k (u + q) t v false) := by
        have := (k1.out.put 3 (.int .i64 ((u + q : Nat) : Int))).drew1
        rw [hW3, show ((u : Int) + (q : Int)) = ((u + q : Nat) : Int) by omega]
        exact this
      have hn1 := k0.out.st.nbox k1.out (by decide) (by decide)
      have a3 : At W3 p b S m := by rw [hW3]; exact At.drewN (⟨k0.out.st.off hn1.1 hn1.2 _, k0.out.fine⟩ : At _ p b S m) 1
      have t3 : Turn (fun k => k = J ∨ k = p ∨ k = b) w W3 := by rw [hW3]; exact (k2.out.put (.inl rfl) _).trans ⟨rfl, rfl, rfl, Nat.le_refl _, fun _ _ _ => rfl⟩
      have r3 : Rw W3 R v xs := HR.out.of fun cs hc => t3.has hc (fun z => by have := HR2.out; omega)
      have hl3 : W3.heap.size ≤ W3.heap.size := Nat.le_refl _
      have hal := boxed W3 (.cells #[.string x] 9)
      obtain ⟨W4, hW4⟩ : ∃ W4, W4 = W3.alloc (.cells #[.string x] 9) := ⟨_, rfl⟩
      have y4 : W4.cell? ⟨W3.heap.size, 0, none⟩ = some (.string x) := by rw [hW4]; exact (Has.fresh W3 9 #[.string x]).cell 0
      rw [← hW4] at hal
      have h4 := h3.up hal
      have r4 := r3.up hal
      have hs4 : W4.heap.size = W3.heap.size + 1 := by rw [hW4]; simp
      have ne4 : W3.heap.size ≠ R ∧ J ≠ R := by have := HRl.out; have := t3.size; have := HR2.out; omega
      obtain ⟨R', v', w5, hrun, hRR, hRlt, r5, t5⟩ := r4.app 49 hn W3.heap.size x y4
      obtain ⟨A1, L1, C1, rfl⟩ := r5.slc
      have h5 : Has w5 J 66 (jcs p h k (u + q) t v false) := t5.has h4 ne4.2
      have a5 : At w5 p b S m := by
        obtain ⟨cs, hcs, hls⟩ := (a3.up hal).st.row
        exact ⟨⟨t5.has (a3.up hal).st.head (fun z => HR2.out.2.1 z.symm), cs, t5.has hcs (fun z => HR2.out.2.2 z.symm), hls⟩, a3.fine⟩
      have T5 := Lib.hid (((t3.in4 (R := R)).trans (Turn.of _ hal)).trans (t5.mono (F' := fun k => k = J ∨ k = p ∨ k = b ∨ k = R) fun k _ z => .inr (.inr (.inr z))))
      have c5 : W3.cell? ⟨J, 5, none⟩ = some v := h3.cell 5
      have d5 : w5.cell? ⟨J, 5, none⟩ = some v := h5.cell 5
      have f5 := h5.free 5
      have z3 := h3.lt
      have A5 := Lib.hid a5
      have H5 := Lib.hid h5
      have R5 := Lib.hid r5
      have RR := Lib.hid (And.intro hRR hRlt)
      have HRun := Lib.hid hrun
      have HW4 := Lib.hid hW4
      have T3 := Lib.hid t3
      have S4 := Lib.hid hs4
      clear hW3 h3 hn1 a3 t3 r3 hal hl3 y4 h4 r4 hs4 ne4 hRR hRlt r5 t5 h5 a5 hrun hW4 c3 f3
      go_wp2_with (first | (at_builtin; rw [← HW4.out]; refine Lib.wpList_append_run _ rfl (.tmp 34) (.tmp 36) 49 49 rfl v (.slice (some ⟨W3.heap.size, 0, none⟩) 1 1) rfl rfl (.slice A1 L1 C1) w5 HRun.out ?_))

      go_ret
      have h6 : Has (w5.setCell ⟨J, 5, none⟩ (.slice A1 L1 C1)) J 66 (jcs p h k (u + q) t (.slice A1 L1 C1) false) := H5.out.put 5 _
      have hn5 := A5.out.st.nbox H5.out (by decide) (by decide)
      refine ⟨rfl, ⟨A5.out.st.off hn5.1 hn5.2 _, A5.out.fine⟩, ⟨R', .slice A1 L1 C1, ?_, ?_, h6, ?_⟩, T5.out.put (.inl rfl) _⟩
      · rcases RR.out.1 with z | z
        · exact .inl z
        · exact .inr (by have := T3.out.size; have := S4.out; omega)
      · have := RR.out.2; simpa [World.setCell] using this
      · refine R5.out.of fun cs hc => hc.off (fun z => ?_) _
        exact hc.ne H5.out (by decide) z
end Go.Proofs.YtjffcgimdffkoaaGreatDoor
