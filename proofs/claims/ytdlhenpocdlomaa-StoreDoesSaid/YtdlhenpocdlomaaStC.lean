/- The bytes of an operation. -/
import Derived.Test.YtdlhenpocdlomaaStA
import Derived.StillTailTactics
import Derived.Laws.Concat
namespace Go.Proofs.Ytdlhenpocdlomaa
open Go.RowKit

/-- filled up with bytes 0, if it is shorter than a block, and wanted so -/
def blk (x : ByteArray) (f : Bool) : ByteArray := if f = false ∨ 64 < x.size then x else x ++ zs (64 - x.size)
def opv (d a n t : Int) (x : ByteArray) (f : Bool) : Array Value := #[.int .i64 d, .int .i64 a, .int .i64 n, .int .i64 t, .string x, .bool f]

theorem zero5 : (Try.prog.info? 5).map (fun i => (i.zero, i.size, i.bytes)) = some (some (.int .u8 0), 1, 1) := by kernel_rfl
set_option maxHeartbeats 400000 in
theorem block_as (w : World) (d a n t : Int) (x : ByteArray) (f : Bool) (q : f = false ∨ 64 < x.size) :
    Calls Try.prog 11 #[.agg (opv d a n t x f)] w fun e w' => e = .returned (.string x) ∧ Below w.heap.size w w' := by
  unfold opv
  cases f
  · clear q
    go_enter Try.func11, Try.ntmps11
    go_wp2
    go_ret
    exact ⟨rfl, boxed _ _⟩
  · have hx : decide (64 < (x.size : Int)) = true := by
      rcases q with q | q
      · cases q
      · simp; omega
    clear q
    go_enter Try.func11, Try.ntmps11
    go_wp2
    go_ret
    exact ⟨rfl, boxed _ _⟩
set_option maxHeartbeats 1000000 in
theorem block_filled (w : World) (d a n t : Int) (x : ByteArray) (q : x.size ≤ 64) :
    Calls Try.prog 11 #[.agg (opv d a n t x true)] w fun e w' => e = .returned (.string (x ++ zs (64 - x.size))) ∧ Below w.heap.size w w' := by
  unfold opv
  obtain ⟨i0, hi, hz0, hz1, hz2⟩ := info_parts zero5
  obtain ⟨k, hk⟩ : ∃ k : Nat, k = 64 - x.size := ⟨_, rfl⟩
  have hk' : (64 : Int) - (x.size : Int) = (k : Int) := by omega
  have hmk : ∀ W : World, (Instr.makeSlice 53 (.int .i64 (k : Int)) (.int .i64 (k : Int))).run Try.prog W = .ok (.slice (some ⟨W.heap.size, 0, none⟩) k k) (W.alloc (.cells (madeCells (Value.int .u8 0).cells k) 5)) := fun W => by
    rw [run_make W 53 5 i0 _ Try.underlying53 hi hz0 .i64 .i64 k k (by omega) (by omega) (by rw [hz2]; omega) (by omega), hz1]
    simp
  have hcv : ∀ W : World, (convert 53 9 (.slice (some ⟨W.heap.size, 0, none⟩) k k)).run Try.prog (W.alloc (.cells (madeCells (Value.int .u8 0).cells k) 5)).drew = .ok (.string (zs k)) (W.alloc (.cells (madeCells (Value.int .u8 0).cells k) 5)).drew := fun W => by
    have hb : Lib.Bytes (W.alloc (.cells (madeCells (Value.int .u8 0).cells k) 5)).drew W.heap.size 0 (zs k) := fun j hj => by
      have hj' : j < k := by rwa [zs_size] at hj
      have hh : Has (W.alloc (.cells (madeCells (Value.int .u8 0).cells k) 5)).drew W.heap.size 5 (madeCells (Value.int .u8 0).cells k) := Has.fresh W 5 (madeCells (Value.int .u8 0).cells k)
      rw [hh.cell]
      have hz : (zs k)[j].toNat = 0 := by
        show ((zs k).data[j]).toNat = 0
        simp [zs]
      simp [madeCells, Value.cells, hj', Nat.mod_one]
      omega
    have := Lib.run_convert_whole (P := Try.prog) _ 53 5 9 Try.underlying53 Try.underlying5 Try.underlying9 W.heap.size 0 (zs k) hb k
    rwa [zs_size] at this
  rw [← hk]
  obtain ⟨C, hC⟩ : ∃ C, C = madeCells (Value.int .u8 0).cells k := ⟨_, rfl⟩
  simp only [← hC] at hmk hcv
  have hx : decide (64 < (x.size : Int)) = false := by simp; omega
  clear hi hz0 hz1 hz2 hC hk
  have HK := Lib.hid hk'
  clear hk' q
  go_enter Try.func11, Try.ntmps11
  go_wp2
  obtain ⟨W0, hW⟩ : ∃ W0, W0 = w.alloc (.cells #[.int .i64 d, .int .i64 a, .int .i64 n, .int .i64 t, .string x, .bool true] 32) := ⟨_, rfl⟩
  have c4 : W0.cell? ⟨w.heap.size, 4, none⟩ = some (.string x) := by rw [hW]; simp [go_sem]
  have hb := Lib.hid (show Below w.heap.size w W0 by rw [hW]; exact boxed _ _)
  rw [← hW]
  have hz : w.heap.size < W0.heap.size := by rw [hW]; simp
  clear hW
  have hq := HK.out
  have hs : ¬ (9223372036854775807 < x.size + (zs k).size) := by rw [zs_size]; omega
  go_region
  all_goals
    go_wp2
    go_ret
    exact ⟨rfl, (hb.out.alloc hb.out.size _).drew⟩

theorem block_any (w : World) (d a n t : Int) (x : ByteArray) (f : Bool) :
    Calls Try.prog 11 #[.agg (opv d a n t x f)] w fun e w' => e = .returned (.string (blk x f)) ∧ Below w.heap.size w w' := by
  unfold blk
  by_cases q : f = false ∨ 64 < x.size
  · rw [if_pos q]; exact block_as w d a n t x f q
  · rw [if_neg q]
    obtain rfl : f = true := by cases f <;> simp_all
    exact block_filled w d a n t x (by omega)
end Go.Proofs.Ytdlhenpocdlomaa
