/- JournalDoes: both journals, told or not, behind any call. -/
import Derived.Test.YtjffcgimdffkoaaGreatDoorQjL
namespace Go.Proofs.YtjffcgimdffkoaaGreatDoor
open Go.RowKit

/-- both sides: their journals, if there are any -/
def Ds (w0 w : World) (p b q r : Nat) (vj vr : Value) (m : Int) : Prop :=
  ∃ s, (∃ J K j, vj = .pointer (some ⟨J, 0, none⟩) ∧ vr = .pointer (some ⟨K, 0, none⟩) ∧ Bj w0 w p b q r J K s s j j m) ∨ (vj = .pointer none ∧ vr = .pointer none ∧ Sb w0 w p b q r s s m)
/-- and an operation in its box -/
def DsX (w0 w : World) (p b q r : Nat) (vj vr : Value) (s s' : SS) (m : Int) (X : Nat) (cs : Array Value) : Prop :=
  (∃ J K j, vj = .pointer (some ⟨J, 0, none⟩) ∧ vr = .pointer (some ⟨K, 0, none⟩) ∧ Bx w0 w p b q r J K s s' j j m X cs) ∨ (vj = .pointer none ∧ vr = .pointer none ∧ SbX w0 w p b q r s s' m X cs)
section
variable {w0 w w' : World} {p b q r J K X : Nat} {vj vr : Value} {s s' : SS} {j j' : JS} {m k : Int} {cs : Array Value}
theorem Ds.up (H : Ds w0 w p b q r vj vr m) (e : Below w.heap.size w w') : Ds w0 w' p b q r vj vr m := by
  obtain ⟨s, ⟨J, K, j, h1, h2, h3⟩ | ⟨h1, h2, h3⟩⟩ := H
  · exact ⟨s, .inl ⟨J, K, j, h1, h2, h3.up e⟩⟩
  · exact ⟨s, .inr ⟨h1, h2, h3.up e⟩⟩
theorem Ds.more (H : Ds w0 w p b q r vj vr m) (e : m ≤ k) : Ds w0 w p b q r vj vr k := by
  obtain ⟨s, ⟨J, K, j, h1, h2, h3⟩ | ⟨h1, h2, h3⟩⟩ := H
  · exact ⟨s, .inl ⟨J, K, j, h1, h2, h3.more e⟩⟩
  · exact ⟨s, .inr ⟨h1, h2, h3.more e⟩⟩
theorem Ds.bel (H : Ds w0 w p b q r vj vr m) : Below w0.heap.size w0 w := by
  obtain ⟨s, ⟨J, K, j, h1, h2, h3⟩ | ⟨h1, h2, h3⟩⟩ := H
  · exact h3.bel
  · exact h3.bel
theorem Ds.same (H : Ds w0 w p b q r vj vr m) :
    Calls Tryz.prog 21 #[vj, vr, .pointer (some ⟨p, 0, none⟩), .pointer (some ⟨q, 0, none⟩)] w fun e w' => e = .returned (.bool true) ∧ Ds w0 w' p b q r vj vr m := by
  obtain ⟨s, ⟨J, K, j, rfl, rfl, h3⟩ | ⟨rfl, rfl, h3⟩⟩ := H
  · exact (same_some h3).mono fun e w' h => ⟨h.1, s, .inl ⟨J, K, j, rfl, rfl, h3.up h.2⟩⟩
  · exact (same_none h3).mono fun e w' h => ⟨h.1, s, .inr ⟨rfl, rfl, h3.up h.2⟩⟩
/-- both opened -/
theorem Sb.open_any (H : Sb w0 w p b q r s s m) (hT : Tb w0) (hm : m ≤ 800000) :
    ∃ E, Calls Tryz.prog 8 #[.pointer (some ⟨p, 0, none⟩)] w fun e w1 => ∃ vj, e = .returned (.tuple #[vj, .int .i64 E]) ∧
      Hid (Calls Tryz.prog 9 #[.pointer (some ⟨q, 0, none⟩)] w1 fun e w2 => ∃ vr, e = .returned (.tuple #[vr, .int .i64 E]) ∧ Ds w0 w2 p b q r vj vr (m + 10000)) := by
  obtain ⟨S, jo, E, hS⟩ : ∃ S jo E, openS s = (S, jo, E) := ⟨_, _, _, rfl⟩
  cases jo with
  | none =>
    refine ⟨E, (H.open_none hS hT hm).mono ?_⟩
    rintro e w1 ⟨rfl, h⟩
    refine ⟨_, rfl, Lib.hid (h.out.mono ?_)⟩
    rintro e w2 ⟨rfl, g⟩
    exact ⟨_, rfl, S, .inr ⟨rfl, rfl, g⟩⟩
  | some j =>
    obtain rfl := open_zero hS
    refine ⟨0, (H.open_some hS hT hm).mono ?_⟩
    rintro e w1 ⟨J, rfl, h⟩
    refine ⟨_, rfl, Lib.hid (h.out.mono ?_)⟩
    rintro e w2 ⟨K, rfl, g⟩
    exact ⟨_, rfl, S, .inl ⟨J, K, j, rfl, rfl, g⟩⟩
theorem Bx.ds (H : Bx w0 w p b q r J K s s j j m X cs) : Ds w0 w p b q r (.pointer (some ⟨J, 0, none⟩)) (.pointer (some ⟨K, 0, none⟩)) m := ⟨s, .inl ⟨J, K, j, rfl, rfl, H.bj⟩⟩
theorem SbX.ds (H : SbX w0 w p b q r s s m X cs) : Ds w0 w p b q r (.pointer none) (.pointer none) m := ⟨s, .inr ⟨rfl, rfl, H.sb⟩⟩
theorem DsX.ds (H : DsX w0 w p b q r vj vr s s m X cs) : Ds w0 w p b q r vj vr m := by
  obtain ⟨J, K, j, rfl, rfl, h⟩ | ⟨rfl, rfl, h⟩ := H
  · exact h.ds
  · exact h.ds
theorem DsX.sbx (H : DsX w0 w p b q r vj vr s s' m X cs) : SbX w0 w p b q r s s' m X cs := by
  obtain ⟨J, K, j, rfl, rfl, h⟩ | ⟨rfl, rfl, h⟩ := H
  · exact h.sbx
  · exact h
theorem DsX.fuse (H : DsX w0 w p b q r vj vr s s' m X cs) (a t : Int) (hn : a ≤ 9223372036854775807) :
    Calls Tryz.prog 14 #[.pointer (some ⟨p, 0, none⟩), .int .i64 a, .int .i64 t] w fun e w' => e = .returned (.tuple #[]) ∧ DsX w0 w' p b q r vj vr (fuS s a t) s' m X cs := by
  obtain ⟨J, K, j, rfl, rfl, h⟩ | ⟨rfl, rfl, h⟩ := H
  · exact (h.fuse a t hn).mono fun e w' g => ⟨g.1, .inl ⟨J, K, j, rfl, rfl, g.2⟩⟩
  · exact (h.fuse a t hn).mono fun e w' g => ⟨g.1, .inr ⟨rfl, rfl, g.2⟩⟩
theorem DsX.rfuse (H : DsX w0 w p b q r vj vr s s' m X cs) (a t : Int) :
    Calls Tryz.prog 15 #[.pointer (some ⟨q, 0, none⟩), .int .i64 a, .int .i64 t] w fun e w' => e = .returned (.tuple #[]) ∧ DsX w0 w' p b q r vj vr s (fuS s' a t) m X cs := by
  obtain ⟨J, K, j, rfl, rfl, h⟩ | ⟨rfl, rfl, h⟩ := H
  · exact (h.rfuse a t).mono fun e w' g => ⟨g.1, .inl ⟨J, K, j, rfl, rfl, g.2⟩⟩
  · exact (h.rfuse a t).mono fun e w' g => ⟨g.1, .inr ⟨rfl, rfl, g.2⟩⟩
theorem DsX.box (H : DsX w0 w p b q r vj vr s s' m X cs) : Has w X 39 cs := H.sbx.box
/-- the box laid anew -/
theorem Ds.opX (H : Ds w0 w p b q r vj vr m) (cs : Array Value) : ∃ s, Fine s m ∧ DsX w0 (w.alloc (.cells cs 39)) p b q r vj vr s s m w.heap.size cs := by
  obtain ⟨s, ⟨J, K, j, rfl, rfl, h⟩ | ⟨rfl, rfl, h⟩⟩ := H
  · exact ⟨s, h.sb.at_.fine, .inl ⟨J, K, j, rfl, rfl, h.opX cs⟩⟩
  · exact ⟨s, h.at_.fine, .inr ⟨rfl, rfl, h.up (boxed w _), Has.fresh w 39 cs⟩⟩
theorem Bx.put (H : Bx w0 w p b q r J K s s' j j' m X cs) (hX : w0.heap.size ≤ X) (z : Nat) (u : Value) : Bx w0 (w.setCell ⟨X, z, none⟩ u) p b q r J K s s' j j' m X (cs.setIfInBounds z u) := by
  obtain ⟨R, v, R', v', h1, h2, h3, h4, h5, h6, h7⟩ := H.ex
  have tt : Turn (fun k => k = X) w (w.setCell ⟨X, z, none⟩ u) := (Turn.refl (fun k => k = X) w).put (a := ⟨X, z, none⟩) rfl u
  exact ⟨⟨R, v, R', v', h1.kept tt (fun x hx => h7 x (by rcases hx with z | z | z | z <;> simp [z])), h2.keep tt (fun x hx => h7 x (by rcases hx with z | z | z | z <;> simp [z])), h3, h4, h5, h6, h7⟩, H.bel.setCell hX _, H.box.put z u⟩
theorem SbX.put (H : SbX w0 w p b q r s s' m X cs) (hX : w0.heap.size ≤ X) (z : Nat) (u : Value) : SbX w0 (w.setCell ⟨X, z, none⟩ u) p b q r s s' m X (cs.setIfInBounds z u) := by
  have tt : Turn (fun k => k = X) w (w.setCell ⟨X, z, none⟩ u) := (Turn.refl (fun k => k = X) w).put (a := ⟨X, z, none⟩) rfl u
  have n1 := H.sb.at_.st.nbox H.box (by decide) (by decide)
  have n2 := H.sb.rt.nbox H.box (by decide) (by decide)
  exact ⟨⟨⟨H.sb.at_.st.kept tt (Ne.symm n1.1) (Ne.symm n1.2), H.sb.at_.fine⟩, H.sb.rt.keep tt (Ne.symm n2.1) (Ne.symm n2.2), H.sb.bel.setCell hX _, H.sb.lo⟩, H.box.put z u⟩
theorem DsX.put (H : DsX w0 w p b q r vj vr s s' m X cs) (hX : w0.heap.size ≤ X) (z : Nat) (u : Value) : DsX w0 (w.setCell ⟨X, z, none⟩ u) p b q r vj vr s s' m X (cs.setIfInBounds z u) := by
  obtain ⟨J, K, j, rfl, rfl, h⟩ | ⟨rfl, rfl, h⟩ := H
  · exact .inl ⟨J, K, j, rfl, rfl, h.put hX z u⟩
  · exact .inr ⟨rfl, rfl, h.put hX z u⟩
theorem DsX.put4 {o0 o1 o2 o3 : Value} (H : DsX w0 w p b q r vj vr s s' m X #[o0, o1, o2, o3]) (hX : w0.heap.size ≤ X) (u0 u1 u2 u3 : Value) :
    DsX w0 ((((w.setCell ⟨X, 0, none⟩ u0).setCell ⟨X, 1, none⟩ u1).setCell ⟨X, 2, none⟩ u2).setCell ⟨X, 3, none⟩ u3) p b q r vj vr s s' m X #[u0, u1, u2, u3] := (((H.put hX 0 u0).put hX 1 u1).put hX 2 u2).put hX 3 u3
end
def Sx3 (w : World) (X : Nat) (y : ByteArray) : Prop := w.cell? ⟨X, 3, none⟩ = some (.string y)
def Sx13 (w : World) (X : Nat) (nn : Int) (y : ByteArray) : Prop := w.cell? ⟨X, 1, none⟩ = some (.int .i64 nn) ∧ w.cell? ⟨X, 3, none⟩ = some (.string y)
theorem Bx.s3 {w0 w : World} {p b q r J K X : Nat} {s s' : SS} {j j' : JS} {m : Int} {o0 o1 o2 : Value} {y : ByteArray} (H : Bx w0 w p b q r J K s s' j j' m X #[o0, o1, o2, .string y]) : Sx3 w X y := H.box.cell 3
theorem SbX.s13 {w0 w : World} {p b q r X : Nat} {s s' : SS} {m nn : Int} {o0 o2 : Value} {y : ByteArray} (H : SbX w0 w p b q r s s' m X #[o0, .int .i64 nn, o2, .string y]) : Sx13 w X nn y := ⟨H.box.cell 1, H.box.cell 3⟩
end Go.Proofs.YtjffcgimdffkoaaGreatDoor
