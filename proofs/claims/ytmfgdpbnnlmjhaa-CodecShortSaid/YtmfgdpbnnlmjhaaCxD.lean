/- The program's Put. -/
import Derived.Test.YtmfgdpbnnlmjhaaCxC
import Derived.Laws.Concat
import Derived.Deep.RegionHeld
namespace Go.Proofs.Ytmfgdpbnnlmjhaa
open Go.RowKit

/-- a command's bytes -/
def putL (k : Int) (xs : List Int) : List UInt8 := UInt8.ofNat k.toNat :: UInt8.ofNat xs.length :: flat xs
/-- a command that has bytes -/
def PutOk (k : Int) (xs : List Int) : Prop := 0 ≤ k ∧ k ≤ 255 ∧ xs.length ≤ 64
theorem sapp (a b : List UInt8) : str a ++ str b = str (a ++ b) := by
  apply ByteArray.ext
  simp [str]
/-- two bytes that are laid -/
def twoC (k n : Int) : Array Value := #[.int .u8 k, .int .u8 n]
theorem two_bytes {w : World} {g : Nat} {k n : Nat} (hk : k < 256) (hn : n < 256) (h : Has w g 5 (twoC k n)) : Lib.Bytes w g 0 (str [UInt8.ofNat k, UInt8.ofNat n]) := fun j hj => by
  rw [str_size] at hj
  rw [Nat.zero_add, h.cell]
  have : j = 0 ∨ j = 1 := by simp at hj; omega
  rcases this with rfl | rfl
  · show some (Value.int .u8 (k : Int)) = some (Value.int .u8 (((UInt8.ofNat k).toNat : Nat) : Int))
    rw [byte_of hk]
  · show some (Value.int .u8 (n : Int)) = some (Value.int .u8 (((UInt8.ofNat n).toNat : Nat) : Int))
    rw [byte_of hn]
theorem conv_two {w : World} {g : Nat} {k n : Nat} (hk : k < 256) (hn : n < 256) (h : Has w g 5 (twoC k n)) :
    (convert 49 9 (.slice (some ⟨g, 0, none⟩) 2 2)).run Try.prog w = .ok (.string (str [UInt8.ofNat k, UInt8.ofNat n])) w := by
  have := Lib.run_convert_whole (P := Try.prog) w 49 5 9 Try.underlying49 Try.underlying5 Try.underlying9 g 0 _ (two_bytes hk hn h) 2
  rwa [str_size] at this

set_option maxRecDepth 100000 in
set_option maxHeartbeats 4000000 in
theorem put_ok (k : Int) (a : Option Addr) (c : Nat) (xs : List Int) (w : World) (hX : NumA w a xs) (hm : ∀ x ∈ xs, Am x) (hok : PutOk k xs) :
    Calls Try.prog 8 #[.agg #[.int .i64 k, .slice a xs.length c]] w fun e w' => e = .returned (.tuple #[.string (str (putL k xs)), .int .i64 0]) ∧ Below w.heap.size w w' := by
  obtain ⟨K, rfl⟩ : ∃ K : Nat, k = (K : Int) := ⟨k.toNat, by have := hok.1; omega⟩
  have hK : K ≤ 255 := by have := hok.2.1; omega
  obtain ⟨N, hN⟩ : ∃ N, N = xs.length := ⟨_, rfl⟩
  have hN64 : N ≤ 64 := by rw [hN]; exact hok.2.2
  have hfl : (flat xs).length ≤ 640 := by have := flat_len hm; omega
  have HP : Hid (str [UInt8.ofNat K, UInt8.ofNat N] ++ str (flat xs) = str (putL K xs)) := by
    show _ = _
    rw [sapp, hN]; rfl
  have HCV : Hid (∀ (W : World) (g : Nat), Has W g 5 (twoC K N) → (convert 49 9 (.slice (some ⟨g, 0, none⟩) 2 2)).run Try.prog W = .ok (.string (str [UInt8.ofNat K, UInt8.ofNat N])) W) := fun W g h => conv_two (by omega) (by omega) h
  have HL : Hid (∀ W : World, Below w.heap.size w W → Calls Try.prog 23 #[.slice a N c] W fun e w' => e = .returned (.string (str (flat xs))) ∧ Below W.heap.size W w') := by
    intro W hb
    rw [hN]
    exact laid64_any a c xs W (hX.up hb) hm (by omega)
  obtain ⟨A, hA⟩ : ∃ A, A = str [UInt8.ofNat K, UInt8.ofNat N] := ⟨_, rfl⟩
  obtain ⟨B, hB⟩ : ∃ B, B = str (flat xs) := ⟨_, rfl⟩
  obtain ⟨R, hR⟩ : ∃ R, R = str (putL K xs) := ⟨_, rfl⟩
  have sA : A.size = 2 := by rw [hA, str_size]; rfl
  have sB : B.size ≤ 640 := by rw [hB, str_size]; exact hfl
  rw [← hA] at HCV HP
  rw [← hB] at HL HP
  rw [← hR] at HP ⊢
  have q1 : ¬ (9223372036854775807 < A.size + B.size) := by omega
  rw [← hN]
  have h0 : ¬ ((K : Int) < 0) := by omega
  have h1 : ¬ ((255 : Int) < (K : Int)) := by omega
  have h2 : ¬ ((64 : Int) < (N : Int)) := by omega
  have m1 : IntKind.u8.wrap (K : Int) = (K : Int) := by rw [IntKind.wrap_u8]; omega
  have m2 : IntKind.u8.wrap (N : Int) = (N : Int) := by rw [IntKind.wrap_u8]; omega
  clear hA hB hR hX hm hok hN hfl sA sB
  go_enter Try.func8, Try.ntmps8
  go_wp2_with fail
  obtain ⟨W0, hW⟩ : ∃ W0, W0 = w.alloc (.cells #[.int .i64 (K : Int), .slice a N c] 24) := ⟨_, rfl⟩
  have hb0 := Lib.hid (show Below w.heap.size w W0 by rw [hW]; exact boxed _ _)
  have c0 : W0.cell? ⟨w.heap.size, 0, none⟩ = some (.int .i64 (K : Int)) := by rw [hW]; simp
  have c1 : W0.cell? ⟨w.heap.size, 1, none⟩ = some (.slice a N c) := by rw [hW]; simp
  have hlt : w.heap.size < W0.heap.size := by rw [hW]; simp
  rw [← hW]
  clear hW
  have hcvG : ∀ W : World, (convert 49 9 (.slice (some ⟨W.heap.size, 0, none⟩) 2 2)).run Try.prog (W.alloc (.cells #[.int .u8 (K : Int), .int .u8 (N : Int)] 5)) = .ok (.string A) (W.alloc (.cells #[.int .u8 (K : Int), .int .u8 (N : Int)] 5)) := fun W => HCV.out _ _ (Has.fresh W 5 _)
  have hcv0 : (convert 49 9 (.slice (some ⟨W0.heap.size, 0, none⟩) 2 2)).run Try.prog (W0.alloc (.cells #[.int .u8 (K : Int), .int .u8 (N : Int)] 5)).drew = .ok (.string A) (W0.alloc (.cells #[.int .u8 (K : Int), .int .u8 (N : Int)] 5)).drew := hcvG W0.drew
  have HB0 : Hid (∀ W, Below W0.heap.size W0 W → W.cell? ⟨w.heap.size, 0, none⟩ = some (.int .i64 (K : Int)) ∧ W.cell? ⟨w.heap.size, 1, none⟩ = some (.slice a N c)) := fun W h => ⟨kcell h c0, kcell h c1⟩
  have HD : Hid (Below W0.heap.size W0 W0.drew) := (Below.refl _ _).drew
  have HE : Hid (Below W0.heap.size W0 ((W0.alloc (.cells #[.int .u8 (K : Int), .int .u8 (N : Int)] 5)).drew)) := ((Below.refl _ _).alloc (Nat.le_refl _) _).drew
  go_region_held (fun w' => w'.cell? ⟨w.heap.size, 0, none⟩ = some (.int .i64 (K : Int)) ∧ w'.cell? ⟨w.heap.size, 1, none⟩ = some (.slice a N c))
    ((first | exact HB0.out _ HD.out | exact HB0.out _ HE.out | exact HB0.out _ k1.out | exact HB0.out _ k2.out | exact HB0.out _ (k1.out.alloc k1.out.size _)))
    (first | (go_at_call 23; (with_reducible refine (HL.out W0.drew (hb0.out.drew)).mono ?_); rintro e w1 ⟨rfl, g1⟩; have k1 := Lib.hid (up2 HD.out g1); clear g1) | (go_at_call 23; (with_reducible refine (HL.out ((W0.alloc (.cells #[.int .u8 (K : Int), .int .u8 (N : Int)] 5)).drew) (up2 hb0.out HE.out)).mono ?_); rintro e w1 ⟨rfl, g1⟩; have k2 := Lib.hid (up2 HE.out g1); have hcv2 := HCV.out w1 W0.heap.size ((Has.fresh W0.drew 5 _).up g1); clear g1))
  all_goals
    clear hcvG hcv0
    go_wp2
    go_ret2
    exact ⟨by rw [← HP.out]; rfl, by first | exact up2 hb0.out k2.out | exact up2 hb0.out (k1.out.alloc k1.out.size _)⟩

set_option maxHeartbeats 2000000 in
theorem put_no (k : Int) (a : Option Addr) (n c : Nat) (w : World) (hno : ¬ (0 ≤ k ∧ k ≤ 255 ∧ n ≤ 64)) :
    Calls Try.prog 8 #[.agg #[.int .i64 k, .slice a n c]] w fun e w' => e = .returned (.tuple #[.string ⟨#[]⟩, .int .i64 2]) ∧ Below w.heap.size w w' := by
  by_cases h0 : k < 0
  · clear hno
    go_enter Try.func8, Try.ntmps8
    go_wp2
    go_ret2
    exact ⟨rfl, boxed _ _⟩
  · by_cases h1 : (255 : Int) < k
    · clear hno
      go_enter Try.func8, Try.ntmps8
      go_wp2
      go_ret2
      exact ⟨rfl, boxed _ _⟩
    · have h2 : (64 : Int) < (n : Int) := by omega
      clear hno
      go_enter Try.func8, Try.ntmps8
      go_wp2
      go_ret2
      exact ⟨rfl, boxed _ _⟩
end Go.Proofs.Ytmfgdpbnnlmjhaa
