/- The reference's store in memory, and its calls. -/
import Derived.Test.YtdlhenpocdlomaaStD
import Derived.Deep.RegionLaw
import Derived.Laws.AppendOwn
import Derived.OwnWalk
namespace Go.Proofs.Ytdlhenpocdlomaa
open Go.RowKit

def heads2 (r cap : Nat) (T : Int) (s : SS) : Array Value := #[.slice (some ⟨r, 0, none⟩) s.n cap, .int .i64 (if s.ld = true then s.fw else -1), .int .i64 T, .bool (!s.pw), .int .i64 s.mn]
def Told (cs : Array Value) (n : Nat) (B : Nat → ByteArray) : Prop := ∀ i, i < n → cs[i]? = some (.string (B i))
/-- the reference's store at q, its blocks at r, holds s -/
structure Rt (w : World) (q r : Nat) (s : SS) : Prop where
  head : ∃ cap T, Has w q 50 (heads2 r cap T s) ∧ (s.ld = true → s.ft = clamp T)
  row : ∃ cs, Has w r 9 cs ∧ Told cs s.n s.B
theorem Rt.ne {w : World} {q r : Nat} {s : SS} (h : Rt w q r s) : q ≠ r := by
  obtain ⟨cs, hc, _⟩ := h.row
  obtain ⟨cap, T, hh, _⟩ := h.head
  exact hh.ne hc (by decide)
theorem Rt.up {w w' : World} {q r : Nat} {s : SS} (h : Rt w q r s) (k : Below w.heap.size w w') : Rt w' q r s :=
  ⟨by obtain ⟨cap, T, hh, ht⟩ := h.head; exact ⟨cap, T, hh.up k, ht⟩, by obtain ⟨cs, hc, hl⟩ := h.row; exact ⟨cs, hc.up k, hl⟩⟩
/-- the two stores lie apart -/
theorem Rt.but {w w' : World} {p b q r : Nat} {s s' : SS} (h : Rt w q r s) (hs : St w p b s') (k : But p b w w') : Rt w' q r s := by
  obtain ⟨cap, T, hh, ht⟩ := h.head
  obtain ⟨cs, hc, hl⟩ := h.row
  obtain ⟨ds, hd, _⟩ := hs.row
  exact ⟨⟨cap, T, k.has hh (hh.ne hs.head (by decide)) (hh.ne hd (by decide)), ht⟩, cs, k.has hc (hc.ne hs.head (by decide)) (hc.ne hd (by decide)), hl⟩
theorem St.but {w w' : World} {p b q r : Nat} {s s' : SS} (h : St w p b s) (hs : Rt w q r s') (k : But q r w w') : St w' p b s := by
  obtain ⟨cap, T, hh, ht⟩ := hs.head
  obtain ⟨cs, hc, hl⟩ := hs.row
  obtain ⟨ds, hd, hm⟩ := h.row
  exact ⟨k.has h.head (h.head.ne hh (by decide)) (h.head.ne hc (by decide)), ds, k.has hd (hd.ne hh (by decide)) (hd.ne hc (by decide)), hm⟩

set_option maxHeartbeats 400000 in
theorem zeros_any (w : World) : Calls Try.prog 17 #[] w fun e w' => e = .returned (.string (zs 64)) ∧ Below w.heap.size w w' := by
  obtain ⟨i0, hi, hz0, hz1, hz2⟩ := info_parts zero5
  have hmk : ∀ W : World, (Instr.makeSlice 53 (.int .i64 64) (.int .i64 64)).run Try.prog W = .ok (.slice (some ⟨W.heap.size, 0, none⟩) 64 64) (W.alloc (.cells (madeCells (Value.int .u8 0).cells 64) 5)) := fun W => by
    rw [run_make W 53 5 i0 _ Try.underlying53 hi hz0 .i64 .i64 64 64 (by omega) (by omega) (by rw [hz2]; omega) (by omega), hz1]
    rfl
  have hcv : ∀ W : World, (convert 53 9 (.slice (some ⟨W.heap.size, 0, none⟩) 64 64)).run Try.prog (W.alloc (.cells (madeCells (Value.int .u8 0).cells 64) 5)) = .ok (.string (zs 64)) (W.alloc (.cells (madeCells (Value.int .u8 0).cells 64) 5)) := fun W => by
    have hb : Lib.Bytes (W.alloc (.cells (madeCells (Value.int .u8 0).cells 64) 5)) W.heap.size 0 (zs 64) := fun j hj => by
      have hj' : j < 64 := by rwa [zs_size] at hj
      rw [(Has.fresh W 5 (madeCells (Value.int .u8 0).cells 64)).cell]
      have hz : (zs 64)[j].toNat = 0 := by
        show ((zs 64).data[j]).toNat = 0
        simp [zs]
      simp [madeCells, Value.cells, hj', Nat.mod_one]
      omega
    have := Lib.run_convert_whole (P := Try.prog) _ 53 5 9 Try.underlying53 Try.underlying5 Try.underlying9 W.heap.size 0 (zs 64) hb 64
    rwa [zs_size] at this
  obtain ⟨C, hC⟩ : ∃ C, C = madeCells (Value.int .u8 0).cells 64 := ⟨_, rfl⟩
  simp only [← hC] at hmk hcv
  clear hi hz0 hz1 hz2 hC
  go_enter Try.func17, Try.ntmps17
  go_wp2
  go_ret
  exact ⟨rfl, boxed _ _⟩

set_option maxHeartbeats 400000 in
theorem rrestart_any (w : World) (q r : Nat) (s : SS) (h : Rt w q r s) :
    Calls Try.prog 20 #[.pointer (some ⟨q, 0, none⟩)] w fun e w' => e = .returned (.tuple #[]) ∧ Rt w' q r (reS s) ∧ But q r w w' := by
  have HR := Lib.hid h
  obtain ⟨cap, T, hh, ht⟩ := h.head
  have c1 : w.cell? ⟨q, 1, none⟩ = _ := hh.cell 1
  have c3 : w.cell? ⟨q, 3, none⟩ = _ := hh.cell 3
  have f1 := hh.free 1
  have f3 := hh.free 3
  have HH := Lib.hid hh
  simp [heads2] at c1 c3
  clear h hh ht
  go_enter Try.func20, Try.ntmps20
  go_wp2
  go_end0
  have K := ((But.refl q q w).to 1 (.int .i64 (-1))).to 3 (.bool false)
  refine ⟨rfl, ⟨⟨cap, T, ?_, by simp [reS]⟩, ?_⟩, K.wide⟩
  · exact (HH.out.put 1 (.int .i64 (-1))).put 3 (.bool false)
  · obtain ⟨cs, hc, hl⟩ := HR.out.row
    exact ⟨cs, K.has hc (Ne.symm HR.out.ne) (Ne.symm HR.out.ne), hl⟩
set_option maxHeartbeats 400000 in
theorem rfuse_any (w : World) (q r : Nat) (s : SS) (k t : Int) (h : Rt w q r s) :
    Calls Try.prog 19 #[.pointer (some ⟨q, 0, none⟩), .int .i64 k, .int .i64 t] w fun e w' => e = .returned (.tuple #[]) ∧ Rt w' q r (fuS s k t) ∧ But q r w w' := by
  have HR := Lib.hid h
  obtain ⟨cap, T, hh, ht⟩ := h.head
  have c1 : w.cell? ⟨q, 1, none⟩ = _ := hh.cell 1
  have c2 : w.cell? ⟨q, 2, none⟩ = _ := hh.cell 2
  have f1 := hh.free 1
  have f2 := hh.free 2
  have HH := Lib.hid hh
  simp [heads2] at c1 c2
  clear h hh ht
  by_cases z : k < 0
  · have e : fuS s k t = { s with ld := false, fw := 0, ft := 0 } := if_pos z
    rw [e]
    clear e
    go_enter Try.func19, Try.ntmps19
    go_wp2
    go_end0
    have K := (((But.refl q q w).to 1 (.int .i64 k)).to 1 (.int .i64 (-1))).to 2 (.int .i64 t)
    refine ⟨rfl, ⟨⟨cap, t, ?_, by simp⟩, ?_⟩, K.wide⟩
    · exact ((HH.out.put 1 (.int .i64 k)).put 1 (.int .i64 (-1))).put 2 (.int .i64 t)
    · obtain ⟨cs, hc, hl⟩ := HR.out.row
      exact ⟨cs, K.has hc (Ne.symm HR.out.ne) (Ne.symm HR.out.ne), hl⟩
  · have e : fuS s k t = { s with ld := true, fw := k, ft := clamp t } := if_neg z
    rw [e]
    clear e
    have z' : 0 ≤ k := by omega
    clear z
    go_enter Try.func19, Try.ntmps19
    go_wp2
    go_end0
    have K := ((But.refl q q w).to 1 (.int .i64 k)).to 2 (.int .i64 t)
    refine ⟨rfl, ⟨⟨cap, t, ?_, by simp⟩, ?_⟩, K.wide⟩
    · exact (HH.out.put 1 (.int .i64 k)).put 2 (.int .i64 t)
    · obtain ⟨cs, hc, hl⟩ := HR.out.row
      exact ⟨cs, K.has hc (Ne.symm HR.out.ne) (Ne.symm HR.out.ne), hl⟩
end Go.Proofs.Ytdlhenpocdlomaa
