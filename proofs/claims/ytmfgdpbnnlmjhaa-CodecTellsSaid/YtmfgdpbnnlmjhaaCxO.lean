/- The reference's Put. -/
import Derived.Test.YtmfgdpbnnlmjhaaCxN
namespace Go.Proofs.Ytmfgdpbnnlmjhaa
open Go.RowKit

theorem putL_app (K : Nat) (N : Nat) (p : List UInt8) : str [UInt8.ofNat K, UInt8.ofNat N] ++ str p = str (UInt8.ofNat K :: UInt8.ofNat N :: p) := by rw [sapp]; rfl
set_option maxRecDepth 100000 in
set_option maxHeartbeats 4000000 in
theorem kput_ok (k : Int) (a : Option Addr) (c : Nat) (xs : List Int) (w : World) (hX : NumA w a xs) (hm : ∀ x ∈ xs, Am x) (hok : PutOk k xs) :
    Calls Try.prog 9 #[.agg #[.int .i64 k, .slice a xs.length c]] w fun e w' => e = .returned (.tuple #[.string (str (putL k xs)), .int .i64 0]) ∧ Below w.heap.size w w' := by
  obtain ⟨K, rfl⟩ : ∃ K : Nat, k = (K : Int) := ⟨k.toNat, by have := hok.1; omega⟩
  have hK : K ≤ 255 := by have := hok.2.1; omega
  obtain ⟨N, hN⟩ : ∃ N, N = xs.length := ⟨_, rfl⟩
  have hN64 : N ≤ 64 := by rw [hN]; exact hok.2.2
  have HCV : Hid (∀ (W : World) (g : Nat), Has W g 5 (twoC K N) → (convert 49 9 (.slice (some ⟨g, 0, none⟩) 2 2)).run Try.prog W = .ok (.string (str [UInt8.ofNat K, UInt8.ofNat N])) W) := fun W g h => conv_two (by omega) (by omega) h
  obtain ⟨A, hA⟩ : ∃ A, A = str [UInt8.ofNat K, UInt8.ofNat N] := ⟨_, rfl⟩
  rw [← hA] at HCV
  have HS := Lib.hid hA
  have HX := Lib.hid hX
  have HM := Lib.hid hm
  have HL := Lib.hid hN
  rw [← hN]
  have h0 : ¬ ((K : Int) < 0) := by omega
  have h1 : ¬ ((255 : Int) < (K : Int)) := by omega
  have h2 : ¬ ((64 : Int) < (N : Int)) := by omega
  have m1 : IntKind.u8.wrap (K : Int) = (K : Int) := by rw [IntKind.wrap_u8]; omega
  have m2 : IntKind.u8.wrap (N : Int) = (N : Int) := by rw [IntKind.wrap_u8]; omega
  clear hA hX hm hok hN
  go_enter Try.func9, Try.ntmps9
  go_wp2_with fail
  obtain ⟨W0, hW⟩ : ∃ W0, W0 = w.alloc (.cells #[.int .i64 (K : Int), .slice a N c] 30) := ⟨_, rfl⟩
  have hb0 := Lib.hid (show Below w.heap.size w W0 by rw [hW]; exact boxed _ _)
  have c0 : W0.cell? ⟨w.heap.size, 0, none⟩ = some (.int .i64 (K : Int)) := by rw [hW]; simp
  have c1 : W0.cell? ⟨w.heap.size, 1, none⟩ = some (.slice a N c) := by rw [hW]; simp
  have hsz : W0.heap.size = w.heap.size + 1 := by rw [hW]; simp
  rw [← hW]
  clear hW
  have hcv := HCV.out _ _ (Has.fresh W0 5 (twoC K N))
  rw [hsz] at hcv
  unfold twoC at hcv
  have HB0 : Hid (Below W0.heap.size W0 (W0.alloc (.cells #[.int .u8 (K : Int), .int .u8 (N : Int)] 5))) := (Below.refl _ _).alloc (Nat.le_refl _) _
  obtain ⟨W1, hW1⟩ : ∃ W1, W1 = W0.alloc (.cells #[.int .u8 (K : Int), .int .u8 (N : Int)] 5) := ⟨_, rfl⟩
  rw [← hW1] at hcv HB0 ⊢
  have HC : Hid (∀ W, Below W0.heap.size W0 W → W.cell? ⟨w.heap.size, 1, none⟩ = some (.slice a N c)) := fun W h => kcell h c1
  clear hW1 c0 c1 hsz
  have c1 := HC.out _ HB0.out
  rw [hcv]
  go_wp2_with fail
  go_loopw [4, 5] (fun v i wr => ∃ k : Nat, k ≤ N ∧ i = .int .i64 (k : Int) ∧ v = .string (str (UInt8.ofNat K :: UInt8.ofNat N :: flat (xs.take k))) ∧ Hid (Below W0.heap.size W0 wr)) (fun _ i _ => N - (intOf i).toNat)
  case atStart => exact ⟨0, Nat.zero_le _, rfl, by rw [HS.out]; rfl, HB0.out⟩
  case round =>
    obtain ⟨k, hk, rfl, rfl, HI⟩ := hrel
    clear c1
    have c1 := HC.out _ HI.out
    by_cases hlt : k < N
    · have hkx : k < xs.length := by rw [← HL.out]; exact hlt
      obtain ⟨b, o, rfl, hcell⟩ := ((HX.out.up hb0.out).up HI.out).at hkx
      obtain ⟨x, hx⟩ : ∃ x, x = xs[k] := ⟨_, rfl⟩
      rw [← hx] at hcell
      have HA : Hid (Am x) := HM.out x (by rw [hx]; exact List.getElem_mem _)
      have hF := flat_next xs k hkx
      rw [← hx] at hF
      have hLn : (flat (xs.take k)).length ≤ 10000 := by
        have := flat_len (xs := xs.take k) (fun y hy => HM.out y (List.mem_of_mem_take hy))
        rw [List.length_take] at this
        omega
      have hEn : (enc (fold x)).length ≤ 10 := by have := nl_ten HA.out; unfold nl at this; exact this
      have HN : Hid (str (UInt8.ofNat K :: UInt8.ofNat N :: flat (xs.take k)) ++ str (enc (fold x)) = str (UInt8.ofNat K :: UInt8.ofNat N :: flat (xs.take (k + 1)))) := by
        show _ = _
        rw [sapp, hF]; rfl
      obtain ⟨X, hX⟩ : ∃ X, X = str (UInt8.ofNat K :: UInt8.ofNat N :: flat (xs.take k)) := ⟨_, rfl⟩
      obtain ⟨Y, hY⟩ : ∃ Y, Y = str (enc (fold x)) := ⟨_, rfl⟩
      have sX : X.size ≤ 10002 := by rw [hX, str_size]; simpa using hLn
      have sY : Y.size ≤ 10 := by rw [hY, str_size]; exact hEn
      have HK : Hid (∀ W : World, Calls Try.prog 15 #[.int .i64 x] W fun e w' => e = .returned (.string Y) ∧ Below W.heap.size W w') := fun W => by rw [hY]; exact knum_any x W HA.out
      rw [← hX] at HN ⊢
      rw [← hY] at HN
      have q1 : ¬ (9223372036854775807 < X.size + Y.size) := by omega
      clear hX hY sX sY hF hLn hEn hx
      go_wp2_with fail
      refine (HK.out _).mono ?_
      rintro e w1 ⟨rfl, hb1⟩
      have HD := Lib.hid (up2 HI.out hb1)
      clear hb1
      go_wp2
      go_roundw
      case rel => exact ⟨k + 1, by omega, by go_num, by rw [← HN.out], HD⟩
      case measure => simp [intOf]; omega
    · have hkN : k = N := by omega
      have HD : Hid (xs.take k = xs) := List.take_of_length_le (by rw [hkN, HL.out]; omega)
      clear hkN
      go_wp2
      go_ret2
      exact ⟨by rw [HD.out, HL.out]; rfl, up2 hb0.out HI.out⟩
set_option maxHeartbeats 2000000 in
theorem kput_no (k : Int) (a : Option Addr) (n c : Nat) (w : World) (hno : ¬ (0 ≤ k ∧ k ≤ 255 ∧ n ≤ 64)) :
    Calls Try.prog 9 #[.agg #[.int .i64 k, .slice a n c]] w fun e w' => e = .returned (.tuple #[.string ⟨#[]⟩, .int .i64 2]) ∧ Below w.heap.size w w' := by
  by_cases h0 : k < 0
  · clear hno
    go_enter Try.func9, Try.ntmps9
    go_wp2
    go_ret2
    exact ⟨rfl, boxed _ _⟩
  · by_cases h1 : (255 : Int) < k
    · clear hno
      go_enter Try.func9, Try.ntmps9
      go_wp2
      go_ret2
      exact ⟨rfl, boxed _ _⟩
    · have h2 : (64 : Int) < (n : Int) := by omega
      clear hno
      go_enter Try.func9, Try.ntmps9
      go_wp2
      go_ret2
      exact ⟨rfl, boxed _ _⟩
end Go.Proofs.Ytmfgdpbnnlmjhaa
