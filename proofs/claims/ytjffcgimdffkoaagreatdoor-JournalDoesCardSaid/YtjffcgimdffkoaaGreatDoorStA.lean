/- The program's store in memory, and its calls that are small: has, Blocks, Writes, Fuse, Restart, Read. -/
import Derived.Test.YtjffcgimdffkoaaGreatDoorBk
namespace Go.Proofs.YtjffcgimdffkoaaGreatDoor
open Go.RowKit

/-- of the blocks that were there only p and b may have turned -/
structure But (p b : Nat) (w w' : World) : Prop where
  os : w'.os = w.os
  tape : w'.tape = w.tape
  output : w'.output = w.output
  size : w.heap.size ≤ w'.heap.size
  block : ∀ k, k < w.heap.size → k ≠ p → k ≠ b → w'.heap[k]? = w.heap[k]?
theorem But.refl (p b : Nat) (w : World) : But p b w w := ⟨rfl, rfl, rfl, Nat.le_refl _, fun _ _ _ _ => rfl⟩
theorem But.trans {p b : Nat} {u v w : World} (h : But p b u v) (k : But p b v w) : But p b u w :=
  ⟨k.os.trans h.os, k.tape.trans h.tape, k.output.trans h.output, Nat.le_trans h.size k.size, fun i hi q r => (k.block i (Nat.lt_of_lt_of_le hi h.size) q r).trans (h.block i hi q r)⟩
theorem But.of {w w' : World} (p b : Nat) (h : Below w.heap.size w w') : But p b w w' := ⟨h.os, h.tape, h.output, h.size, fun k hk _ _ => h.block k hk⟩
theorem But.put (p b : Nat) (w : World) {a : Addr} (h : a.block = p ∨ a.block = b) (v : Value) : But p b w (w.setCell a v) :=
  ⟨rfl, rfl, rfl, by simp [World.setCell], fun k _ q r => heap_setCell_other w a k v (by rcases h with h | h <;> omega)⟩
theorem But.below {B p b : Nat} {w w' : World} (h : But p b w w') (hB : B ≤ w.heap.size) (hp : B ≤ p) (hb : B ≤ b) : Below B w w' :=
  ⟨h.os, h.tape, h.output, h.size, fun k hk => h.block k (by omega) (by omega) (by omega)⟩
theorem But.has {p b g t : Nat} {w w' : World} {cs : Array Value} (h : But p b w w') (q : Has w g t cs) (hp : g ≠ p) (hb : g ≠ b) : Has w' g t cs := (h.block g q.lt hp hb).trans q

/-- the blocks' bytes lie one behind the other -/
def Lies (cs : Array Value) (n : Nat) (B : Nat → ByteArray) : Prop :=
  cs.size = n * 64 ∧ ∀ i, i < n → ∀ j (h : j < (B i).size), cs[i * 64 + j]? = some (.int .u8 ((B i)[j].toNat : Int))
def heads (b : Nat) (s : SS) : Array Value := #[.slice (some ⟨b, 0, none⟩) s.n s.n, .bool s.pw, .bool s.ld, .int .i64 s.fw, .int .i64 s.ft, .int .i64 s.mn]
/-- the program's store at p, its blocks at b, holds s -/
structure St (w : World) (p b : Nat) (s : SS) : Prop where
  head : Has w p 56 (heads b s)
  row : ∃ cs, Has w b 84 cs ∧ Lies cs s.n s.B
theorem St.ne {w : World} {p b : Nat} {s : SS} (h : St w p b s) : p ≠ b := by
  obtain ⟨cs, hc, _⟩ := h.row
  exact h.head.ne hc (by decide)
theorem St.up {w w' : World} {p b : Nat} {s : SS} (h : St w p b s) (q : Below w.heap.size w w') : St w' p b s :=
  ⟨h.head.up q, by obtain ⟨cs, hc, hl⟩ := h.row; exact ⟨cs, hc.up q, hl⟩⟩
theorem St.bytes {w : World} {p b : Nat} {s : SS} (h : St w p b s) {i : Nat} (hi : i < s.n) : Lib.Bytes w b (i * 64) (s.B i) := by
  obtain ⟨cs, hc, _, hl⟩ := h.row
  intro j hj
  rw [hc.cell, hl i hi j hj]
theorem St.c0 {w : World} {p b : Nat} {s : SS} (h : St w p b s) : w.cell? ⟨p, 0, none⟩ = some (.slice (some ⟨b, 0, none⟩) s.n s.n) := by rw [h.head.cell]; rfl
theorem St.c1 {w : World} {p b : Nat} {s : SS} (h : St w p b s) : w.cell? ⟨p, 1, none⟩ = some (.bool s.pw) := by rw [h.head.cell]; rfl
theorem St.c2 {w : World} {p b : Nat} {s : SS} (h : St w p b s) : w.cell? ⟨p, 2, none⟩ = some (.bool s.ld) := by rw [h.head.cell]; rfl
theorem St.c3 {w : World} {p b : Nat} {s : SS} (h : St w p b s) : w.cell? ⟨p, 3, none⟩ = some (.int .i64 s.fw) := by rw [h.head.cell]; rfl
theorem St.c4 {w : World} {p b : Nat} {s : SS} (h : St w p b s) : w.cell? ⟨p, 4, none⟩ = some (.int .i64 s.ft) := by rw [h.head.cell]; rfl
theorem St.c5 {w : World} {p b : Nat} {s : SS} (h : St w p b s) : w.cell? ⟨p, 5, none⟩ = some (.int .i64 s.mn) := by rw [h.head.cell]; rfl

set_option maxHeartbeats 400000 in
theorem blocks_any (w : World) (p b : Nat) (s : SS) (h : St w p b s) :
    Calls Tryz.prog 46 #[.pointer (some ⟨p, 0, none⟩)] w fun e w' => e = .returned (.int .i64 (s.n : Int)) ∧ w = w' := by
  have c0 := h.c0
  clear h
  go_enter Tryz.func46, Tryz.ntmps46
  go_wp2
  go_ret
  exact ⟨rfl, rfl⟩
set_option maxHeartbeats 400000 in
theorem has_yes (w : World) (p b : Nat) (s : SS) (a : Int) (h : St w p b s) (h0 : 0 ≤ a) (h1 : a < s.n) :
    Calls Tryz.prog 41 #[.pointer (some ⟨p, 0, none⟩), .int .i64 a] w fun e w' => e = .returned (.bool true) ∧ w = w' := by
  have c0 := h.c0
  clear h
  go_enter Tryz.func41, Tryz.ntmps41
  go_wp2
  go_ret
  exact ⟨rfl, rfl⟩
set_option maxHeartbeats 400000 in
theorem has_no (w : World) (p b : Nat) (s : SS) (a : Int) (h : St w p b s) (q : ¬ (0 ≤ a ∧ a < s.n)) :
    Calls Tryz.prog 41 #[.pointer (some ⟨p, 0, none⟩), .int .i64 a] w fun e w' => e = .returned (.bool false) ∧ w = w' := by
  have c0 := h.c0
  clear h
  by_cases h0 : 0 ≤ a
  · have h1 : decide (a < (s.n : Int)) = false := by simp; omega
    clear q
    go_enter Tryz.func41, Tryz.ntmps41
    go_wp2
    go_ret
    exact ⟨rfl, rfl⟩
  · clear q
    have h1 : a < 0 := by omega
    clear h0
    go_enter Tryz.func41, Tryz.ntmps41
    go_wp2
    go_ret
    exact ⟨rfl, rfl⟩

theorem But.to {p : Nat} {u v : World} (h : But p p u v) (i : Nat) (x : Value) : But p p u (v.setCell ⟨p, i, none⟩ x) := h.trans (But.put p p v (.inl rfl) x)
theorem But.wide {p b : Nat} {w w' : World} (h : But p p w w') : But p b w w' := ⟨h.os, h.tape, h.output, h.size, fun k hk q _ => h.block k hk q q⟩
theorem St.put {w w' : World} {p b : Nat} {s s' : SS} (h : St w p b s) (k : But p p w w') (hp : Has w' p 56 (heads b s')) (hn : s'.n = s.n) (hB : s'.B = s.B) : St w' p b s' :=
  ⟨hp, by obtain ⟨cs, hc, hl⟩ := h.row; exact ⟨cs, k.has hc (Ne.symm h.ne) (Ne.symm h.ne), by rw [hn, hB]; exact hl⟩⟩
theorem clamp_eq (t : Int) : min (max t 0) 64 = clamp t := by unfold clamp; split <;> (try split) <;> omega

set_option maxHeartbeats 400000 in
theorem restart_any (w : World) (p b : Nat) (s : SS) (h : St w p b s) :
    Calls Tryz.prog 19 #[.pointer (some ⟨p, 0, none⟩)] w fun e w' => e = .returned (.tuple #[]) ∧ St w' p b (reS s) ∧ But p b w w' := by
  have c1 := h.c1
  have c2 := h.c2
  have c3 := h.c3
  have c4 := h.c4
  have f1 := h.head.free 1
  have f2 := h.head.free 2
  have f3 := h.head.free 3
  have f4 := h.head.free 4
  have H := Lib.hid h
  clear h
  go_enter Tryz.func19, Tryz.ntmps19
  go_wp2
  go_end0
  have K := ((((But.refl p p w).to 1 (.bool true)).to 2 (.bool false)).to 3 (.int .i64 0)).to 4 (.int .i64 0)
  exact ⟨rfl, H.out.put K (((((H.out.head.put 1 _).put 2 _).put 3 _).put 4 _)) rfl rfl, K.wide⟩
set_option maxHeartbeats 400000 in
theorem fuse_any (w : World) (p b : Nat) (s : SS) (k t : Int) (h : St w p b s) :
    Calls Tryz.prog 14 #[.pointer (some ⟨p, 0, none⟩), .int .i64 k, .int .i64 t] w fun e w' => e = .returned (.tuple #[]) ∧ St w' p b (fuS s k t) ∧ But p b w w' := by
  have c1 := h.c1
  have c2 := h.c2
  have c3 := h.c3
  have c4 := h.c4
  have f1 := h.head.free 1
  have f2 := h.head.free 2
  have f3 := h.head.free 3
  have f4 := h.head.free 4
  have H := Lib.hid h
  clear h
  by_cases q : k < 0
  · go_enter Tryz.func14, Tryz.ntmps14
    go_wp2
    refine bodyPost_ret (results_none rfl _ _ _) rfl ?_
    have K := (((But.refl p p w).to 2 (.bool false)).to 3 (.int .i64 0)).to 4 (.int .i64 0)
    have e : fuS s k t = { s with ld := false, fw := 0, ft := 0 } := if_pos q
    rw [e]
    exact ⟨rfl, H.out.put K (((H.out.head.put 2 _).put 3 _).put 4 _) rfl rfl, K.wide⟩
  · have e : fuS s k t = { s with ld := true, fw := k, ft := clamp t } := if_neg q
    have q' : 0 ≤ k := by omega
    clear q
    have E := Lib.hid e
    clear e
    go_enter Tryz.func14, Tryz.ntmps14
    go_wp2
    go_end0
    have K := (((But.refl p p w).to 2 (.bool true)).to 3 (.int .i64 k)).to 4 (.int .i64 (clamp t))
    rw [E.out, clamp_eq]
    exact ⟨rfl, H.out.put K (((H.out.head.put 2 _).put 3 _).put 4 _) rfl rfl, K.wide⟩
set_option maxHeartbeats 400000 in
theorem read_yes (w : World) (p b : Nat) (s : SS) (a : Int) (h : St w p b s) (h0 : 0 ≤ a) (h1 : a < s.n) (sz : (s.B a.toNat).size = 64) :
    Calls Tryz.prog 43 #[.pointer (some ⟨p, 0, none⟩), .int .i64 a] w fun e w' => e = .returned (.tuple #[.string (s.B a.toNat), .int .i64 0]) ∧ w = w' := by
  have c0 := h.c0
  have hb := h.bytes (i := a.toNat) (by omega)
  have hcv := Lib.run_convert_whole (P := Tryz.prog) w 46 5 9 Tryz.underlying46 Tryz.underlying5 Tryz.underlying9 b (a.toNat * 64) (s.B a.toNat) hb 64
  rw [sz] at hcv
  have H := Lib.hid h
  clear h hb
  go_enter Tryz.func43, Tryz.ntmps43
  go_wp2_with fail
  refine (has_yes w p b s a H.out h0 h1).mono ?_
  rintro e w' ⟨rfl, rfl⟩
  go_wp2
  go_ret2
  exact ⟨rfl, rfl⟩
set_option maxHeartbeats 400000 in
theorem read_no (w : World) (p b : Nat) (s : SS) (a : Int) (h : St w p b s) (q : ¬ (0 ≤ a ∧ a < s.n)) :
    Calls Tryz.prog 43 #[.pointer (some ⟨p, 0, none⟩), .int .i64 a] w fun e w' => e = .returned (.tuple #[.string ByteArray.empty, .int .i64 1]) ∧ w = w' := by
  have H := Lib.hid h
  have Q := Lib.hid q
  clear h q
  go_enter Tryz.func43, Tryz.ntmps43
  go_wp2_with fail
  refine (has_no w p b s a H.out Q.out).mono ?_
  rintro e w' ⟨rfl, rfl⟩
  go_wp2
  go_ret2
  exact ⟨rfl, rfl⟩

theorem made_zero (n : Nat) : Lies (madeCells (Value.agg (Array.replicate 64 (.int .u8 0))).cells (n * 64)) n (fun _ => zs 64) := by
  refine ⟨size_madeCells _ _, fun i hi j hj => ?_⟩
  rw [zs_size] at hj
  have hz : (zs 64)[j].toNat = 0 := by
    show ((zs 64).data[j]).toNat = 0
    simp [zs]
  have h1 : (i * 64 + j) % 64 = j := by omega
  have h2 : i * 64 + j < n * 64 := by omega
  simp [madeCells, Value.cells, h2, h1, hj]
  omega

theorem zero54 : (Tryz.prog.info? 84).map (fun i => (i.zero, i.size, i.bytes)) = some (some (.agg (Array.replicate 64 (.int .u8 0))), 64, 64) := by kernel_rfl
set_option maxHeartbeats 400000 in
theorem new_yes (w : World) (n : Int) (h0 : 3 ≤ n) (h1 : n ≤ 4096) :
    Calls Tryz.prog 6 #[.int .i64 n] w fun e w' => e = .returned (.tuple #[.pointer (some ⟨w.heap.size + 1, 0, none⟩), .int .i64 0]) ∧ St w' (w.heap.size + 1) w.heap.size (newS n.toNat) ∧ Below w.heap.size w w' := by
  obtain ⟨i0, hi, hz0, hz1, hz2⟩ := info_parts zero54
  have hmk : ∀ W : World, (Instr.makeSlice 52 (.int .i64 n) (.int .i64 n)).run Tryz.prog W = .ok (.slice (some ⟨W.heap.size, 0, none⟩) n.toNat n.toNat) (W.alloc (.cells (madeCells (Value.agg (Array.replicate 64 (.int .u8 0))).cells (n.toNat * 64)) 84)) := fun W => by
    rw [run_make W 52 84 i0 _ Tryz.underlying52 hi hz0 .i64 .i64 n n (by omega) (by omega) (by rw [hz2]; omega) (by omega), hz1]
  clear hi hz0 hz1 hz2
  have hl := Lib.hid (made_zero n.toNat)
  obtain ⟨C, hC⟩ : ∃ C, C = madeCells (Value.agg (Array.replicate 64 (.int .u8 0))).cells (n.toNat * 64) := ⟨_, rfl⟩
  rw [← hC] at hl
  simp only [← hC] at hmk
  clear hC
  go_enter Tryz.func6, Tryz.ntmps6
  go_wp2
  go_ret2
  have hh := Has.fresh (w.alloc (.cells C 84)) 56 (heads w.heap.size (newS n.toNat))
  rw [show (w.alloc (.cells C 84)).heap.size = w.heap.size + 1 by simp] at hh
  exact ⟨rfl, ⟨hh, C, (Has.fresh w 84 C).more _, hl.out⟩, ((Below.refl _ _).alloc (Nat.le_refl _) _).alloc (by simp) _⟩
set_option maxHeartbeats 400000 in
theorem new_no (w : World) (n : Int) (q : n < 3 ∨ 4096 < n) :
    Calls Tryz.prog 6 #[.int .i64 n] w fun e w' => e = .returned (.tuple #[.pointer none, .int .i64 1]) ∧ w = w' := by
  rcases q with q | q
  · go_enter Tryz.func6, Tryz.ntmps6
    go_wp2
    go_ret2
    exact ⟨rfl, rfl⟩
  · have q' : ¬ n < 3 := by omega
    go_enter Tryz.func6, Tryz.ntmps6
    go_wp2
    go_ret2
    exact ⟨rfl, rfl⟩
end Go.Proofs.YtjffcgimdffkoaaGreatDoor
