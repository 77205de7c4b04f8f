/- Sums of no amounts, and of rows of amounts, both ways. -/
import Derived.Test.YtbcdfkcgcaifjaaZ
import Derived.Test.YtbcdfkcgcaifjaaI
import Derived.Test.YtbcdfkcgcaifjaaPoSteps
namespace Go.Proofs.Ytbcdfkcgcaifjaa
open Go.RowKit

set_option maxRecDepth 100000 in
set_option maxHeartbeats 400000 in
theorem sum_zero (a : Option Addr) (cap : Nat) (w : World) :
    Calls Try.prog 17 #[.slice a 0 cap] w fun e w' => e = .returned (.tuple #[.int .i64 0, .int .i64 0]) ∧ Below w.heap.size w w' := by
  go_enter Try.func17, Try.ntmps17
  go_wp2_with fail
  go_loopw [6, 9] (fun _ i wr => i = .int .i64 0 ∧ SumAt w 0 wr) (fun _ _ _ => 0)
  case atStart => exact ⟨rfl, SumAt.start w⟩
  case round =>
    obtain ⟨rfl, hS⟩ := hrel
    have HS := Lib.hid hS
    clear hS
    obtain ⟨c0, c1, e0, e1⟩ := HS.out.2
    go_wp2_with fail
    refine (narrow_fit 0 _ (by omega) (by omega)).mono ?_
    rintro e w2 ⟨rfl, hb2⟩
    go_wp2_with fail
    go_ret2
    exact ⟨rfl, HS.out.1.trans (hb2.mono (by have := HS.out.2.lt; omega))⟩

set_option maxRecDepth 100000 in
set_option maxHeartbeats 400000 in
theorem total_zero (a0 : Option Addr) (cap : Nat) (w : World) : Calls Try.prog 31 #[.slice a0 0 cap] w (ExPost w 0) := by
  have HT := Lib.hid (tat_start w)
  go_enter Try.func31, Try.ntmps31
  go_wp2_with fail
  obtain ⟨W0, hW0⟩ : ∃ W0, W0 = ((w.alloc (.cells #[.int .i64 0, .slice none 0 0] 45)).alloc (.cells #[.int .i64 0, .slice none 0 0] 45)) := ⟨_, rfl⟩
  rw [← hW0] at HT
  rw [← hW0]
  clear hW0
  go_loopw [4] (fun i wr => i = .int .i64 0 ∧ TAt w 0 0 none 0 0 wr) (fun _ _ => 0)
  case atStart => exact ⟨rfl, HT.out⟩
  case round =>
    obtain ⟨rfl, hT⟩ := hrel
    have HS := Lib.hid hT
    clear hT
    obtain ⟨c0, c1, e0, e1⟩ := HS.out.2.2.2.1
    obtain ⟨d0, d1, g0, g1⟩ := HS.out.2.2.1.1
    go_wp2_with fail
    exact bodyPost_ret (v := .agg #[.int .i64 0, .slice none 0 0]) (by simp [results, Try.results31, go_sem, d0, d1]) rfl
      ⟨0, none, 0, 0, rfl, ex_store HS.out.2.2.1 HS.out.2.2.2.2.2 _ _, (HS.out.1.setCell (Nat.le_refl _) _).setCell (Nat.le_refl _) _⟩

/-- what the law needs of a row of amounts -/
def Told (w : World) (a : Option Addr) (len cap : Nat) (S : Int) : Prop :=
  Small S ∧ (∀ W, Below w.heap.size w W → Calls Try.prog 17 #[.slice a len cap] W fun e w' => e = .returned (.tuple #[.int .i64 (tellV S), .int .i64 (tellE S)]) ∧ Below W.heap.size W w') ∧
  (∀ W, Below w.heap.size w W → Calls Try.prog 31 #[.slice a len cap] W (ExPost W S))

theorem told_zero (w : World) (a : Option Addr) (cap : Nat) : Told w a 0 cap 0 :=
  ⟨small64 (by decide) (by decide), fun W _ => sum_zero a cap W, fun W _ => total_zero a cap W⟩
theorem told_some (f : Nat → Int) (hf : Amounts f) (b off len cap : Nat) (w : World) (hl : len ≤ 1000) (hc : ∀ k, k < len → w.cell? ⟨b, off + k, none⟩ = some (.int .i64 (f k))) : Told w (some ⟨b, off, none⟩) len cap (sumTo f len) := by
  have key : ∀ W, Below w.heap.size w W → ∀ k, k < len → W.cell? ⟨b, off + k, none⟩ = some (.int .i64 (f k)) := fun W hW k hk =>
    (hW.cell (p := ⟨b, off + k, none⟩) (World.block_lt_of_cell? (a := ⟨b, off + k, none⟩) _ (hc k hk))).trans (hc k hk)
  exact ⟨sum_small hf hl, fun W hW => sum_some f hf b off len cap W (by omega) (key W hW), fun W hW => total_some f hf b off len cap W hl (key W hW)⟩

theorem small_add {a b : Int} (ha : Am a) (hb : Am b) : Small (a + b) := by
  unfold Am at *
  have := sum_small (f := fun k => if k = 0 then a else b) (k := 2) (by intro k; by_cases h : k = 0 <;> simp [h] <;> omega) (by omega)
  simpa [sumTo] using this
theorem small_sub {a b : Int} (ha : Am a) (hb : Am b) : Small (a - b) := by
  unfold Am at *
  have := sum_small (f := fun k => if k = 0 then a else if k = 1 then -(b + 1) else 1) (k := 3) (by
    intro k
    by_cases h : k = 0
    · simp [h]; omega
    · by_cases h1 : k = 1
      · simp [h1]; omega
      · simp [h, h1]) (by omega)
  have e : sumTo (fun k => if k = 0 then a else if k = 1 then -(b + 1) else 1) 3 = a - b := by simp [sumTo]; omega
  rw [e] at this
  exact this

end Go.Proofs.Ytbcdfkcgcaifjaa

namespace Go.Proofs.Ytbcdfkcgcaifjaa
open Go.RowKit

theorem arg_of {W : World} {b off n : Nat} {f : Nat → Int} (h : Row W b off n f) : Arg W (some ⟨b, off, none⟩) n f := fun _ => ⟨b, off, rfl, h⟩
theorem up1 {w W : World} (h : Below w.heap.size w W) (o : Obj) : Below w.heap.size w (W.alloc o) := h.alloc h.size _
theorem Row.alloc {W : World} {b off n : Nat} {f : Nat → Int} (h : Row W b off n f) (o : Obj) : Row (W.alloc o) b off n f := h.below ((Below.refl _ _).alloc (Nat.le_refl _) _)

/-- the sum of a list of amounts, by cents.Sum -/
theorem sum_arg (f : Nat → Int) (a : Option Addr) (n cap : Nat) (w : World) (hf : Amounts f) (hn : n ≤ 1000) (hA : Arg w a n f) :
    Calls Try.prog 17 #[.slice a n cap] w fun e w' => e = .returned (.tuple #[.int .i64 (tellV (sumN f n)), .int .i64 (tellE (sumN f n))]) ∧ Below w.heap.size w w' := by
  by_cases h0 : n = 0
  · subst h0
    exact sum_zero a cap w
  · obtain ⟨b, off, rfl, hr⟩ := hA (by omega)
    rw [← sumTo_eq]
    exact sum_some f hf b off n cap w (by omega) hr

/-- the law's loops: nothing that it reads is turned -/
structure NearAt (w : World) (a : Option Addr) (p n : Nat) (f v : Nat → Int) (W : World) : Prop where
  bel : Below w.heap.size w W
  ints : Ints W p n v
  arg : Arg W a n f
theorem NearAt.up {w W W' : World} {a : Option Addr} {p n : Nat} {f v : Nat → Int} (h : NearAt w a p n f v W) (hb : Below W.heap.size W W') : NearAt w a p n f v W' :=
  ⟨up2 h.bel hb, ints_up h.ints hb, fun q => by obtain ⟨b, off, e, r⟩ := h.arg q; exact ⟨b, off, e, r.below hb⟩⟩
theorem drew_below (W : World) (q : Nat) : Below W.heap.size W (W.drewN q) := ⟨rfl, rfl, rfl, Nat.le_refl _, fun _ _ => rfl⟩
end Go.Proofs.Ytbcdfkcgcaifjaa
