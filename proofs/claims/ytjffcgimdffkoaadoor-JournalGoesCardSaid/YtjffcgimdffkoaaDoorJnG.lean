/- The steps that lay bytes: made. -/
import Derived.Test.YtjffcgimdffkoaaDoorJnF
namespace Go.Proofs.YtjffcgimdffkoaaDoor
open Go.RowKit

theorem Tb.below {w w' : World} (h : Tb w) (hb : Below w.heap.size w w') : Tb w' := h.up hb
set_option maxRecDepth 100000 in
set_option maxHeartbeats 4000000 in
theorem laying_great (w : World) (p h n a : Nat) (x : ByteArray) (hx : x.size ≤ maxLen) (h4 : 40000 < x.size) :
    Calls Tryd.prog 35 #[.agg (hv p h n), .int .i64 (a : Int), .string x] w fun e w' => e = .returned (.tuple #[.slice none 0 0, .int .i64 4]) ∧ Below w.heap.size w w' := by
  have HL : Hid (∀ W : World, Calls Tryd.prog 41 #[.string x, .bool false] W fun e w' => e = .returned (.tuple #[.slice none 0 0, .int .i64 4]) ∧ W = w') := fun W => lay_full x false W h4 hx
  clear hx h4
  unfold hv
  go_enter Tryd.func35, Tryd.ntmps35
  go_wp2_with fail
  refine (HL.out _).mono ?_
  rintro e w' ⟨rfl, rfl⟩
  go_wp2
  go_ret2
  exact ⟨rfl, (((Below.refl _ _).alloc (Nat.le_refl _) _).alloc (by simp) _).alloc (by simp; omega) _⟩

set_option maxRecDepth 100000 in
set_option maxHeartbeats 4000000 in
theorem laying_room (w : World) (p h n a : Nat) (x : ByteArray) (hx : x.size ≤ 40000) (ha : a ≤ 5000) (hn : n ≤ 4096) (hr : n < a + nb x.size) (hT : Tb w) :
    Calls Tryd.prog 35 #[.agg (hv p h n), .int .i64 (a : Int), .string x] w fun e w' => e = .returned (.tuple #[.slice none 0 0, .int .i64 4]) ∧ Below w.heap.size w w' := by
  obtain ⟨k, hk⟩ : ∃ k, k = nb x.size := ⟨_, rfl⟩
  have hk0 : k ≤ 626 := by rw [hk]; unfold nb; omega
  have HL : Hid (∀ W : World, Below w.heap.size w W → Calls Tryd.prog 41 #[.string x, .bool false] W fun e w' => e = .returned (.tuple #[.slice (some ⟨W.heap.size, 0, none⟩) k k, .int .i64 0]) ∧ Below W.heap.size W w') := fun W hb => by
    rw [hk]
    exact (lay_any x false W hx (hT.up hb)).mono fun _ _ ⟨e, _, q⟩ => ⟨e, q⟩
  rw [← hk] at hr
  have hb0 := Lib.hid ((boxed w (.cells (hv p h n) 57)).alloc (by simp) (.cells #[.int .i64 (a : Int)] 3))
  have hX := Lib.hid ((Has.fresh w 57 (hv p h n)).more (.cells #[.int .i64 (a : Int)] 3))
  have hF := Has.fresh (w.alloc (.cells (hv p h n) 57)) 3 #[.int .i64 (a : Int)]
  rw [show (w.alloc (.cells (hv p h n) 57)).heap.size = w.heap.size + 1 by simp] at hF
  have HF := Lib.hid hF
  clear hx hT hk hF
  unfold hv at *
  obtain ⟨W0, hW⟩ : ∃ W0, W0 = (w.alloc (.cells #[.pointer (some ⟨p, 0, none⟩), .int .i64 (h : Int), .int .i64 (n : Int)] 57)).alloc (.cells #[.int .i64 (a : Int)] 3) := ⟨_, rfl⟩
  rw [← hW] at hb0 hX HF
  obtain ⟨X, hXe⟩ : ∃ X, X = w.heap.size := ⟨_, rfl⟩
  obtain ⟨F, hFe⟩ : ∃ F, F = w.heap.size + 1 := ⟨_, rfl⟩
  rw [← hFe] at HF
  rw [← hXe] at hX
  have HW := Lib.hid hW
  have HXe := Lib.hid hXe
  have HFe := Lib.hid hFe
  clear hW hXe hFe
  go_enter Tryd.func35, Tryd.ntmps35
  go_wp2_with fail
  rw [← HW.out, ← HFe.out, ← HXe.out]
  refine (HL.out _ hb0.out).mono ?_
  rintro e w1 ⟨rfl, hb1⟩
  have B3 := (hX.out.up hb1).box3
  unfold Box3 at B3
  obtain ⟨c0, c1, c2⟩ := B3
  have f0 : w1.cell? ⟨F, 0, none⟩ = some (.int .i64 (a : Int)) := (HF.out.up hb1).cell 0
  have hB := Lib.hid (lots hb0.out hb1)
  have hz : X < w1.heap.size ∧ F < w1.heap.size := ⟨(hX.out.up hb1).lt, (HF.out.up hb1).lt⟩
  obtain ⟨z0, z1⟩ := hz
  clear hb1 HL
  go_wp2
  go_ret2
  exact ⟨rfl, (hB.out.alloc hB.out.size _).alloc (by have := hB.out.size; simp; omega) _⟩

/-- the four steps -/
def four (X F E I C : Nat) : List (FuncId × Array Value) :=
  [(42, #[.pointer (some ⟨X, 0, none⟩), .pointer (some ⟨E, 0, none⟩)]), (44, #[.pointer (some ⟨X, 0, none⟩), .pointer (some ⟨F, 0, none⟩), .pointer (some ⟨I, 0, none⟩)]),
   (46, #[.pointer (some ⟨X, 0, none⟩), .pointer (some ⟨F, 0, none⟩), .pointer (some ⟨I, 0, none⟩)]), (47, #[.pointer (some ⟨X, 0, none⟩), .pointer (some ⟨F, 0, none⟩), .pointer (some ⟨C, 0, none⟩)])]
/-- laid out: the steps at G, and what they have caught -/
def Laid (w : World) (p h n a : Nat) (x : ByteArray) (e : Ending) (w' : World) : Prop :=
  ∃ X F E I g C c G, e = .returned (.tuple #[.slice (some ⟨G, 0, none⟩) 4 4, .int .i64 0]) ∧ w.heap.size ≤ G ∧ Has w' G 90 ((four X F E I C).map fnV).toArray ∧ Cau w' p h n a x.data.toList X F E I g C c ∧ Below w.heap.size w w'
set_option maxRecDepth 100000 in
set_option maxHeartbeats 4000000 in
theorem laying_fine (w : World) (p h n a : Nat) (x : ByteArray) (hx : x.size ≤ 40000) (hn : n ≤ 4096) (hr : a + nb x.size ≤ n) (hT : Tb w) :
    Calls Tryd.prog 35 #[.agg (hv p h n), .int .i64 (a : Int), .string x] w (Laid w p h n a x) := by
  obtain ⟨k, hk⟩ : ∃ k, k = nb x.size := ⟨_, rfl⟩
  have hk0 : k ≤ 626 := by rw [hk]; unfold nb; omega
  have HL : Hid (∀ (W : World) (mk : Bool), Below w.heap.size w W → Calls Tryd.prog 41 #[.string x, .bool mk] W fun e w' => e = .returned (.tuple #[.slice (some ⟨W.heap.size, 0, none⟩) k k, .int .i64 0]) ∧ Has w' W.heap.size 9 (rowA (layX x.data.toList mk)) ∧ Below W.heap.size W w') := fun W mk hb => by
    rw [hk]
    exact lay_any x mk W hx (hT.up hb)
  rw [← hk] at hr
  have hb0 := Lib.hid ((boxed w (.cells (hv p h n) 57)).alloc (by simp) (.cells #[.int .i64 (a : Int)] 3))
  have hX := Lib.hid ((Has.fresh w 57 (hv p h n)).more (.cells #[.int .i64 (a : Int)] 3))
  have hF := Has.fresh (w.alloc (.cells (hv p h n) 57)) 3 #[.int .i64 (a : Int)]
  rw [show (w.alloc (.cells (hv p h n) 57)).heap.size = w.heap.size + 1 by simp] at hF
  have HF := Lib.hid hF
  have HKk := Lib.hid hk
  clear hx hT hk hF
  unfold hv at *
  obtain ⟨W0, hW⟩ : ∃ W0, W0 = (w.alloc (.cells #[.pointer (some ⟨p, 0, none⟩), .int .i64 (h : Int), .int .i64 (n : Int)] 57)).alloc (.cells #[.int .i64 (a : Int)] 3) := ⟨_, rfl⟩
  rw [← hW] at hb0 hX HF
  obtain ⟨X, hXe⟩ : ∃ X, X = w.heap.size := ⟨_, rfl⟩
  obtain ⟨F, hFe⟩ : ∃ F, F = w.heap.size + 1 := ⟨_, rfl⟩
  rw [← hFe] at HF
  rw [← hXe] at hX
  have HW := Lib.hid hW
  have HXe := Lib.hid hXe
  have HFe := Lib.hid hFe
  clear hW hXe hFe
  go_enter Tryd.func35, Tryd.ntmps35
  go_wp2_with fail
  rw [← HW.out, ← HFe.out, ← HXe.out]
  refine (HL.out _ false hb0.out).mono ?_
  rintro e w1 ⟨rfl, hr1, hb1⟩
  obtain ⟨g, hg⟩ : ∃ g, g = W0.heap.size := ⟨_, rfl⟩
  rw [← hg] at hr1 ⊢
  have hX1 := hX.out.up hb1
  have hF1 := HF.out.up hb1
  have B3 := hX1.box3
  unfold Box3 at B3
  obtain ⟨c0, c1, c2⟩ := B3
  have f0 : w1.cell? ⟨F, 0, none⟩ = some (.int .i64 (a : Int)) := hF1.cell 0
  have hB := Lib.hid (lots hb0.out hb1)
  have hz : X < w1.heap.size ∧ F < w1.heap.size := ⟨hX1.lt, hF1.lt⟩
  obtain ⟨z0, z1⟩ := hz
  have HX1 := Lib.hid hX1
  have HF1 := Lib.hid hF1
  have HR1 := Lib.hid hr1
  clear hb1 hX1 hF1 hr1 hg
  go_wp2_with fail
  have hb2 := (boxed w1 (.cells #[.slice (some ⟨g, 0, none⟩) k k] 35)).alloc (by simp) (.cells #[.int .i64 ((a : Int) + (k : Int))] 3)
  have hI := (Has.fresh w1 35 #[.slice (some ⟨g, 0, none⟩) k k]).more (.cells #[.int .i64 ((a : Int) + (k : Int))] 3)
  have hE := Has.fresh (w1.alloc (.cells #[.slice (some ⟨g, 0, none⟩) k k] 35)) 3 #[.int .i64 ((a : Int) + (k : Int))]
  rw [show (w1.alloc (.cells #[.slice (some ⟨g, 0, none⟩) k k] 35)).heap.size = w1.heap.size + 1 by simp] at hE
  obtain ⟨W2, hW2⟩ : ∃ W2, W2 = (w1.alloc (.cells #[.slice (some ⟨g, 0, none⟩) k k] 35)).alloc (.cells #[.int .i64 ((a : Int) + (k : Int))] 3) := ⟨_, rfl⟩
  rw [← hW2] at hb2 hI hE
  obtain ⟨E, hEe⟩ : ∃ E, E = w1.heap.size + 1 := ⟨_, rfl⟩
  obtain ⟨I, hIe⟩ : ∃ I, I = w1.heap.size := ⟨_, rfl⟩
  rw [← hEe] at hE
  rw [← hIe] at hI
  rw [← hW2, ← hEe, ← hIe]
  refine (HL.out _ true (lots hB.out hb2)).mono ?_
  rintro e w3 ⟨rfl, hr3, hb3⟩
  obtain ⟨c, hc⟩ : ∃ c, c = W2.heap.size := ⟨_, rfl⟩
  rw [← hc] at hr3 ⊢
  have h23 := lots hb2 hb3
  have hX3 := HX1.out.up h23
  have hF3 := HF1.out.up h23
  have hR3 := HR1.out.up h23
  have hI3 := hI.up hb3
  have hE3 := hE.up hb3
  have hB3 := Lib.hid (lots hB.out h23)
  have HX3 := Lib.hid hX3
  have HF3 := Lib.hid hF3
  have HR3 := Lib.hid hR3
  have HI3 := Lib.hid hI3
  have HE3 := Lib.hid hE3
  have HC3 := Lib.hid hr3
  clear hW2 hEe hIe hc h23 hX3 hF3 hR3 hI3 hE3 hr3 hb3 hb2 hI hE c0 c1 c2 f0 z0 z1
  go_wp2
  go_ret2
  have hb4 := (boxed w3 (.cells #[.slice (some ⟨c, 0, none⟩) k k] 35)).alloc (by simp) (.cells ((four X F E I w3.heap.size).map fnV).toArray 90)
  have hC4 := (Has.fresh w3 35 #[.slice (some ⟨c, 0, none⟩) k k]).more (.cells ((four X F E I w3.heap.size).map fnV).toArray 90)
  have hG4 := Has.fresh (w3.alloc (.cells #[.slice (some ⟨c, 0, none⟩) k k] 35)) 90 ((four X F E I w3.heap.size).map fnV).toArray
  rw [show (w3.alloc (.cells #[.slice (some ⟨c, 0, none⟩) k k] 35)).heap.size = w3.heap.size + 1 by simp] at hG4
  refine ⟨X, F, E, I, g, w3.heap.size, c, w3.heap.size + 1, rfl, by have := hB3.out.size; omega, hG4, ?_, lots hB3.out hb4⟩
  have hkl : nb x.data.toList.length = k := by rw [list_size, ← HKk.out]
  refine ⟨HX3.out.up hb4, HF3.out.up hb4, ?_, ?_, HR3.out.up hb4, ?_, HC3.out.up hb4⟩
  · rw [hkl, show ((a + k : Nat) : Int) = (a : Int) + (k : Int) by omega]; exact HE3.out.up hb4
  · rw [hkl]; exact HI3.out.up hb4
  · rw [hkl]; exact hC4
end Go.Proofs.YtjffcgimdffkoaaDoor
