/- The reference's Number. -/
import Derived.Test.YtmfgdpbnnlmjhaaCxH
import Derived.Deep.DeepCutAuto
namespace Go.Proofs.Ytmfgdpbnnlmjhaa
open Go.RowKit

theorem one_cell {w : World} {g : Nat} {c : UInt8} (h : Has w g 5 #[.int .u8 (c.toNat : Int)]) : Lib.Bytes w g 0 (str [c]) := fun j hj => by
  rw [str_size] at hj
  rw [Nat.zero_add, h.cell]
  have : j = 0 := by simp at hj; omega
  subst this
  rfl
theorem conv_one {w : World} {g : Nat} {c : UInt8} (h : Has w g 5 #[.int .u8 (c.toNat : Int)]) :
    (convert 49 9 (.slice (some ⟨g, 0, none⟩) 1 1)).run Try.prog w = .ok (.string (str [c])) w := by
  have := Lib.run_convert_whole (P := Try.prog) w 49 5 9 Try.underlying49 Try.underlying5 Try.underlying9 g 0 _ (one_cell h) 1
  rwa [str_size] at this
theorem conv_new (c : UInt8) (W : World) : (convert 49 9 (.slice (some ⟨W.heap.size, 0, none⟩) 1 1)).run Try.prog (W.alloc (.cells #[.int .u8 (c.toNat : Int)] 5)) = .ok (.string (str [c])) (W.alloc (.cells #[.int .u8 (c.toNat : Int)] 5)) := conv_one (Has.fresh W 5 _)
set_option maxRecDepth 100000 in
set_option maxHeartbeats 4000000 in
theorem knum_any (n : Int) (w : World) (hn : Am n) :
    Calls Try.prog 15 #[.int .i64 n] w fun e w' => e = .returned (.string (str (enc (fold n)))) ∧ Below w.heap.size w w' := by
  have hu := fold_lt hn
  have HT := Lib.hid (enc_ten hu)
  obtain ⟨U, hU⟩ : ∃ U, U = fold n := ⟨_, rfl⟩
  have hUp : 0 ≤ n → (U : Int) = 2 * n := fun h => by rw [hU]; unfold fold; rw [if_pos h]; omega
  have hUn : ¬ 0 ≤ n → (U : Int) = 2 * (-(n + 1)) + 1 := fun h => by rw [hU]; unfold fold; rw [if_neg h]; omega
  rw [← hU] at HT hu ⊢
  clear hU
  unfold Am at hn
  have HUp := Lib.hid hUp
  have HUn := Lib.hid hUn
  clear hUp hUn
  go_enter Try.func15, Try.ntmps15
  go_upto_if 6 with fail
  go_cut [3] (fun u wx => u = .int .u64 (U : Int) ∧ wx = w)
  case first =>
    by_cases h0 : 0 ≤ n
    · have e := HUp.out h0
      have eU : (2 * n) % 18446744073709551616 = (U : Int) := by omega
      go_wp2_with fail
      go_meet
      exact ⟨by simp only [Value.int.injEq, true_and]; omega, rfl⟩
    · have e := HUn.out h0
      go_wp2_with fail
      go_meet
      exact ⟨by simp only [Value.int.injEq, true_and]; omega, rfl⟩
  case rest =>
    obtain ⟨rfl, rfl⟩ := hcut
    clear hn HUp HUn
    go_wp2_with fail
    go_loopw [3, 4] (fun x v wr => ∃ (p : List UInt8) (z : Nat), z < 18446744073709551616 ∧ x = .int .u64 (z : Int) ∧ v = .string (str p) ∧ p.length ≤ 9 ∧ Hid (p ++ enc z = enc U) ∧ Hid (Below wc.heap.size wc wr)) (fun x _ _ => (intOf x).toNat)
    case atStart => exact ⟨[], U, hu, rfl, rfl, by simp, rfl, Below.refl _ _⟩
    case round =>
      obtain ⟨p, z, hz, rfl, rfl, hp9, HE, HB⟩ := hrel
      have hX : (str p).size ≤ 9 := by rw [str_size]; exact hp9
      by_cases hlt : z < 128
      · have hge : ¬ (128 : Int) ≤ (z : Int) := by omega
        obtain ⟨c, hc⟩ : ∃ c : UInt8, z = c.toNat := ⟨UInt8.ofNat z, (byte_of (by omega)).symm⟩
        have HN : Hid (str p ++ str [c] = str (enc U)) := by
          show _ = _
          rw [sapp, ← HE.out, enc_small hlt, hc, UInt8.ofNat_toNat]
        subst hc
        have hY : (str [c]).size = 1 := rfl
        have hcv := conv_new c
        obtain ⟨X, hX1⟩ : ∃ X, X = str p := ⟨_, rfl⟩
        obtain ⟨Y, hY1⟩ : ∃ Y, Y = str [c] := ⟨_, rfl⟩
        rw [← hX1] at HN hX ⊢
        rw [← hY1] at HN hY hcv
        have q1 : ¬ (9223372036854775807 < X.size + Y.size) := by omega
        have m1 : IntKind.u8.wrap (c.toNat : Int) = (c.toNat : Int) := by have := c.toNat_lt; rw [IntKind.wrap_u8]; omega
        clear hX1 hY1 HE hlt
        go_wp2
        go_ret
        exact ⟨by rw [← HN.out]; rfl, HB.out.alloc HB.out.size _⟩
      · have hge : (128 : Int) ≤ (z : Int) := by omega
        obtain ⟨c, hc⟩ : ∃ c : UInt8, c = UInt8.ofNat (z % 128 + 128) := ⟨_, rfl⟩
        have hcn : c.toNat = z % 128 + 128 := by rw [hc, byte_of (by omega)]
        obtain ⟨y, hy⟩ : ∃ y, y = z / 128 := ⟨_, rfl⟩
        have HN : Hid (str p ++ str [c] = str (p ++ [c]) ∧ (p ++ [c]) ++ enc y = enc U ∧ p.length + 1 ≤ 9) := by
          have h1 : (p ++ [c]) ++ enc y = enc U := by rw [← HE.out, enc_more hlt, hc, hy, List.append_assoc]; rfl
          refine ⟨sapp _ _, h1, ?_⟩
          have h2 := congrArg List.length h1
          have := enc_pos y
          have := HT.out
          simp only [List.length_append, List.length_cons, List.length_nil] at h2
          omega
        have hyz : (z : Int) / 128 = (y : Int) := by omega
        have hy2 : y < z := by omega
        have hY : (str [c]).size = 1 := rfl
        have hcv := conv_new c
        have m1 : IntKind.u8.wrap ((z : Int) % 128 + 128) = (c.toNat : Int) := by rw [IntKind.wrap_u8]; omega
        have m2 : IntKind.u64.wrap ((z : Int) % 128 + 128) = (z : Int) % 128 + 128 := by rw [IntKind.wrap_u64]; omega
        obtain ⟨X, hX1⟩ : ∃ X, X = str p := ⟨_, rfl⟩
        obtain ⟨Y, hY1⟩ : ∃ Y, Y = str [c] := ⟨_, rfl⟩
        rw [← hX1] at HN hX ⊢
        rw [← hY1] at HN hY hcv
        have q1 : ¬ (9223372036854775807 < X.size + Y.size) := by omega
        clear hX1 hY1 HE hlt hc hcn hy
        go_wp2
        go_roundw
        case rel => exact ⟨p ++ [c], y, by omega, rfl, by rw [← HN.out.1], by rw [List.length_append]; exact HN.out.2.2, HN.out.2.1, HB.out.alloc HB.out.size _⟩
        case measure => simpa [intOf] using hy2
end Go.Proofs.Ytmfgdpbnnlmjhaa
