/- Halves of a store: place, other, head. -/
import Derived.Test.YtjffcgimdffkoaaDoorStAt
import Derived.Test.YtjffcgimdffkoaaDoorJnSure
namespace Go.Proofs.YtjffcgimdffkoaaDoor
open Go.RowKit

/-- a half's cells: its store, which, how many blocks -/
def hv (p h n : Nat) : Array Value := #[.pointer (some ⟨p, 0, none⟩), .int .i64 (h : Int), .int .i64 (n : Int)]

set_option maxHeartbeats 400000 in
theorem place_any (w : World) (p h n a : Nat) (hh : h ≤ 1) (hn : n ≤ 4096) (ha : a ≤ 100000) :
    Calls Tryd.prog 56 #[.agg (hv p h n), .int .i64 (a : Int)] w fun e w' => e = .returned (.int .i64 ((1 + h * n + a : Nat) : Int)) ∧ Below w.heap.size w w' := by
  have h0 : 0 ≤ (h : Int) * n := by have := Nat.zero_le (h * n); omega
  have h1 : (h : Int) * n ≤ 4096 := by have := Nat.mul_le_mul hh hn; omega
  unfold hv
  go_enter Tryd.func56, Tryd.ntmps56
  go_wp2
  go_ret
  exact ⟨by congr 2, boxed _ _⟩

set_option maxHeartbeats 400000 in
theorem other_any (w : World) (p h n : Nat) (hh : h ≤ 1) :
    Calls Tryd.prog 23 #[.agg (hv p h n)] w fun e w' => e = .returned (.agg (hv p (1 - h) n)) ∧ Below w.heap.size w w' := by
  have e : ((1 - h : Nat) : Int) = 1 - (h : Int) := by omega
  have E := Lib.hid e
  clear e
  unfold hv
  rw [E.out]
  clear E
  go_enter Tryd.func23, Tryd.ntmps23
  go_wp2
  exact bodyPost_ret (v := .agg #[.pointer (some ⟨p, 0, none⟩), .int .i64 (1 - (h : Int)), .int .i64 (n : Int)]) (by simp [results, Tryd.results23, go_sem]) rfl ⟨rfl, ((boxed _ _).alloc (by simp) _)⟩

theorem rep_any (w : World) (k : Nat) (hk : k ≤ 1000) (K : Int) (hK : K = (k : Int)) :
    Calls Tryd.prog 37 #[.string ⟨#[0]⟩, .int .i64 K] w fun e w' => e = .returned (.string (str (List.replicate k 0))) ∧ Below w.heap.size w w' := by
  subst hK
  refine (Tryd.strings_Repeat ⟨#[0]⟩ k w (by omega) (by show 1 * k ≤ _; omega)).mono ?_
  rintro e w2 ⟨rfl, hb2⟩
  rw [show Lib.repeatL (⟨#[0]⟩ : ByteArray).data.toList k = List.replicate k 0 from repeat_zero k]
  exact ⟨rfl, hb2⟩
theorem mark_head (h : Nat) : (⟨#[UInt8.ofNat h]⟩ : ByteArray) ++ str (List.replicate 63 0) = mark0 h := by
  rw [show (⟨#[UInt8.ofNat h]⟩ : ByteArray) = str [UInt8.ofNat h] from rfl, str_app]
  rfl
theorem bcell {W w1 : World} (hb : Below W.heap.size W w1) : (∀ b o, b < W.heap.size → w1.cell? ⟨b, o, none⟩ = W.cell? ⟨b, o, none⟩) ∧ (∀ b o, b < W.heap.size → w1.frozen? ⟨b, o, none⟩ = W.frozen? ⟨b, o, none⟩) :=
  ⟨fun b o h => hb.cell (p := ⟨b, o, none⟩) h, fun b o h => hb.frozen (p := ⟨b, o, none⟩) h⟩

theorem lots {w W w2 : World} (h : Below w.heap.size w W) (k : Below W.heap.size W w2) : Below w.heap.size w w2 := h.trans (k.mono h.size)
set_option maxRecDepth 100000 in
set_option maxHeartbeats 1000000 in
theorem head_half (w : World) (p h n : Nat) (hh : h ≤ 1) :
    Calls Tryd.prog 33 #[.agg (hv p h n)] w fun e w' => e = .returned (.string (mark0 h)) ∧ Below w.heap.size w w' := by
  have h0 : IntKind.u8.wrap (h : Int) = (h : Int) := by
    have : h = 0 ∨ h = 1 := by omega
    rcases this with rfl | rfl <;> rfl
  have hcv : ∀ (W : World) (g : Nat), W.cell? ⟨g, 0, none⟩ = some (.int .u8 (h : Int)) → Sem.run Tryd.prog (convert 48 9 (.slice (some ⟨g, 0, none⟩) 1 1)) W = .ok (.string ⟨#[UInt8.ofNat h]⟩) W := fun W g hc => by
    refine Lib.run_convert_whole (P := Tryd.prog) W 48 5 9 Tryd.underlying48 Tryd.underlying5 Tryd.underlying9 g 0 ⟨#[UInt8.ofNat h]⟩ (fun j hj => ?_) 1
    have : j = 0 := by have : j < 1 := hj; omega
    subst this
    rw [Nat.zero_add, hc]
    show some (Value.int .u8 (h : Int)) = some (.int .u8 ((UInt8.ofNat h).toNat : Int))
    rw [UInt8.toNat_ofNat']
    congr 2
    omega
  obtain ⟨R, hR⟩ : ∃ R, R = str (List.replicate 63 0) := ⟨_, rfl⟩
  have hrep : ∀ W : World, Calls Tryd.prog 37 #[.string ⟨#[0]⟩, .int .i64 63] W fun e w' => e = .returned (.string R) ∧ Below W.heap.size W w' := fun W => by rw [hR]; exact rep_any W 63 (by omega) 63 rfl
  have hsz : ¬ (9223372036854775807 < 1 + R.size) := by rw [hR, str_size, List.length_replicate]; omega
  have hfin : (⟨#[UInt8.ofNat h]⟩ : ByteArray) ++ R = mark0 h := by rw [hR]; exact mark_head h
  have HR := Lib.hid hrep
  have HF := Lib.hid hfin
  clear hrep hfin hR hh
  unfold hv
  go_enter Tryd.func33, Tryd.ntmps33
  go_wp2_with fail
  go_region_with (first | (go_at_call 37; ((with_reducible refine (HR.out _).mono ?_); rintro e w2 ⟨rfl, hb2⟩; obtain ⟨hc, hf⟩ := bcell hb2; have HB := Lib.hid (lots (w := w) (by first | exact blw ((boxed _ _).alloc (by simp) _) 1 | exact blw (boxed _ _) 1) hb2); clear hb2)))
  all_goals
    go_wp2
    go_ret
  all_goals
    rw [HF.out]
    exact ⟨rfl, by first | exact HB.out | exact HB.out.alloc HB.out.size _⟩
end Go.Proofs.YtjffcgimdffkoaaDoor
