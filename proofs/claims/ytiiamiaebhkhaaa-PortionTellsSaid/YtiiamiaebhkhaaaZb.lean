/- Sums of no amounts, and of rows of amounts, both ways. -/
import Derived.Test.YtiiamiaebhkhaaaZ
import Derived.Test.YtiiamiaebhkhaaaH
namespace Go.Proofs.Ytiiamiaebhkhaaa
open Go.RowKit

set_option maxHeartbeats 400000 in
theorem sum_zero (a : Option Addr) (cap : Nat) (w : World) :
    Calls Try.prog 13 #[.slice a 0 cap] w fun e w' => e = .returned (.tuple #[.int .i64 0, .int .i64 0]) ∧ Below w.heap.size w w' := by
  go_enter Try.func13, Try.ntmps13
  go_wp2_with fail
  go_loopw [6, 9] (fun _ i wr => i = .int .i64 0 ∧ SumAt w 0 wr) (fun _ _ _ => 0)
  case atStart => exact ⟨rfl, SumAt.start w⟩
  case round =>
    obtain ⟨rfl, hS⟩ := hrel
    have HS := Lib.hid hS
    clear hS
    obtain ⟨c0, c1, e0, e1⟩ := HS.out.2
    go_wp2_with fail
    refine (narrow_fit 0 _ (by omega) (by omega)).mono ?_
    rintro e w2 ⟨rfl, hb2⟩
    go_wp2_with fail
    go_ret2
    exact ⟨rfl, HS.out.1.trans (hb2.mono (by have := HS.out.2.lt; omega))⟩

set_option maxHeartbeats 400000 in
theorem total_zero (a0 : Option Addr) (cap : Nat) (w : World) : Calls Try.prog 21 #[.slice a0 0 cap] w (ExPost w 0) := by
  have HT := Lib.hid (tat_start w)
  go_enter Try.func21, Try.ntmps21
  go_wp2_with fail
  obtain ⟨W0, hW0⟩ : ∃ W0, W0 = ((w.alloc (.cells #[.int .i64 0, .slice none 0 0] 41)).alloc (.cells #[.int .i64 0, .slice none 0 0] 41)) := ⟨_, rfl⟩
  rw [← hW0] at HT
  rw [← hW0]
  clear hW0
  go_loopw [4] (fun i wr => i = .int .i64 0 ∧ TAt w 0 0 none 0 0 wr) (fun _ _ => 0)
  case atStart => exact ⟨rfl, HT.out⟩
  case round =>
    obtain ⟨rfl, hT⟩ := hrel
    have HS := Lib.hid hT
    clear hT
    obtain ⟨c0, c1, e0, e1⟩ := HS.out.2.2.2.1
    obtain ⟨d0, d1, g0, g1⟩ := HS.out.2.2.1.1
    go_wp2_with fail
    exact bodyPost_ret (v := .agg #[.int .i64 0, .slice none 0 0]) (by simp [results, Try.results21, go_sem, d0, d1]) rfl
      ⟨0, none, 0, 0, rfl, ex_store HS.out.2.2.1 HS.out.2.2.2.2.2 _ _, (HS.out.1.setCell (Nat.le_refl _) _).setCell (Nat.le_refl _) _⟩

/-- what the law needs of a row of amounts -/
def Told (w : World) (a : Option Addr) (len cap : Nat) (S : Int) : Prop :=
  Small S ∧ (∀ W, Below w.heap.size w W → Calls Try.prog 13 #[.slice a len cap] W fun e w' => e = .returned (.tuple #[.int .i64 (tellV S), .int .i64 (tellE S)]) ∧ Below W.heap.size W w') ∧
  (∀ W, Below w.heap.size w W → Calls Try.prog 21 #[.slice a len cap] W (ExPost W S))

theorem told_zero (w : World) (a : Option Addr) (cap : Nat) : Told w a 0 cap 0 :=
  ⟨small64 (by decide) (by decide), fun W _ => sum_zero a cap W, fun W _ => total_zero a cap W⟩
theorem told_some (f : Nat → Int) (hf : Amounts f) (b off len cap : Nat) (w : World) (hl : len ≤ 1000) (hc : ∀ k, k < len → w.cell? ⟨b, off + k, none⟩ = some (.int .i64 (f k))) : Told w (some ⟨b, off, none⟩) len cap (sumTo f len) := by
  have key : ∀ W, Below w.heap.size w W → ∀ k, k < len → W.cell? ⟨b, off + k, none⟩ = some (.int .i64 (f k)) := fun W hW k hk =>
    (hW.cell (p := ⟨b, off + k, none⟩) (World.block_lt_of_cell? (a := ⟨b, off + k, none⟩) _ (hc k hk))).trans (hc k hk)
  exact ⟨sum_small hf hl, fun W hW => sum_some f hf b off len cap W (by omega) (key W hW), fun W hW => total_some f hf b off len cap W hl (key W hW)⟩

theorem small_add {a b : Int} (ha : Am a) (hb : Am b) : Small (a + b) := by
  unfold Am at *
  have := sum_small (f := fun k => if k = 0 then a else b) (k := 2) (by intro k; by_cases h : k = 0 <;> simp [h] <;> omega) (by omega)
  simpa [sumTo] using this
theorem small_sub {a b : Int} (ha : Am a) (hb : Am b) : Small (a - b) := by
  unfold Am at *
  have := sum_small (f := fun k => if k = 0 then a else if k = 1 then -(b + 1) else 1) (k := 3) (by
    intro k
    by_cases h : k = 0
    · simp [h]; omega
    · by_cases h1 : k = 1
      · simp [h1]; omega
      · simp [h, h1]) (by omega)
  have e : sumTo (fun k => if k = 0 then a else if k = 1 then -(b + 1) else 1) 3 = a - b := by simp [sumTo]; omega
  rw [e] at this
  exact this

end Go.Proofs.Ytiiamiaebhkhaaa
