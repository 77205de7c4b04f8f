/- The program's numbers: folded, unfolded, wasteful, beyond, Number. -/
import Derived.Test.YtmfgdpbnnlmjhaaCxMath
import Derived.Laws.AppendOwn
import Derived.OwnWalk
import Derived.Lib.UnsafeStr
namespace Go.Proofs.Ytmfgdpbnnlmjhaa
open Go.RowKit

set_option maxHeartbeats 400000 in
theorem folded_any (n : Int) (w : World) (hn : Am n) :
    Calls Try.prog 27 #[.int .i64 n] w fun e w' => e = .returned (.int .u64 ((fold n : Nat) : Int)) ∧ w = w' := by
  unfold Am at hn
  by_cases h : n < 0
  · have e : ((fold n : Nat) : Int) = (-(n + 1)) * 2 + 1 := by unfold fold; rw [if_neg (by omega)]; omega
    rw [e]
    clear e
    go_enter Try.func27, Try.ntmps27
    go_wp2
    go_ret
    exact ⟨rfl, rfl⟩
  · have e : ((fold n : Nat) : Int) = n * 2 := by unfold fold; rw [if_pos (by omega)]; omega
    rw [e]
    clear e
    go_enter Try.func27, Try.ntmps27
    go_wp2
    go_ret
    exact ⟨rfl, rfl⟩

set_option maxHeartbeats 400000 in
theorem unfolded_any (u : Nat) (w : World) (hu : u < 18446744073709551616) :
    Calls Try.prog 26 #[.int .u64 (u : Int)] w fun e w' => e = .returned (.int .i64 (unf u)) ∧ w = w' := by
  by_cases h : u % 2 = 1
  · have e : unf u = -((u / 2 : Nat) : Int) - 1 := by unfold unf; rw [if_pos h]
    have h1 : (((u : Int) % 2) == 1) = true := by simp; omega
    rw [e]
    obtain ⟨k, hk⟩ : ∃ k, k = u / 2 := ⟨_, rfl⟩
    have hd : (u : Int) / 2 = (k : Int) := by omega
    have hk2 : k < 9223372036854775808 := by omega
    rw [← hk]
    clear e hk h
    go_enter Try.func26, Try.ntmps26
    go_wp2
    go_ret
    exact ⟨rfl, rfl⟩
  · have e : unf u = ((u / 2 : Nat) : Int) := by unfold unf; rw [if_neg h]
    have h1 : (((u : Int) % 2) == 1) = false := by simp; omega
    rw [e]
    obtain ⟨k, hk⟩ : ∃ k, k = u / 2 := ⟨_, rfl⟩
    have hd : (u : Int) / 2 = (k : Int) := by omega
    have hk2 : k < 9223372036854775808 := by omega
    rw [← hk]
    clear e hk h
    go_enter Try.func26, Try.ntmps26
    go_wp2
    go_ret
    exact ⟨rfl, rfl⟩

set_option maxHeartbeats 400000 in
theorem wasteful_any (X : ByteArray) (i : Nat) (w : World) (hX : X.size = i + 1) (hi : i < 10) (hlt : i < X.size) :
    Calls Try.prog 24 #[.string X] w fun e w' => e = .returned (.bool (decide (0 < i ∧ (X[i]'hlt).toNat = 0))) ∧ w = w' := by
  have e1 : (X.size : Int) - 1 = (i : Int) := by omega
  obtain ⟨r, hr⟩ : ∃ r, r = decide (0 < i ∧ (X[i]'hlt).toNat = 0) := ⟨_, rfl⟩
  rw [← hr]
  by_cases a : 0 < i
  · by_cases b : (X[i]'hlt).toNat = 0
    · have HR : Hid (r = true) := hr.trans (decide_eq_true ⟨a, b⟩)
      have h1 : (((X[i]'hlt).toNat : Int) == 0) = true := by simp; omega
      have h2 : (1 : Int) < (X.size : Int) := by omega
      clear hX b hr
      go_enter Try.func24, Try.ntmps24
      go_wp2
      go_ret
      exact ⟨by rw [HR.out]; rfl, rfl⟩
    · have HR : Hid (r = false) := hr.trans (decide_eq_false (fun z => b z.2))
      have h1 : (((X[i]'hlt).toNat : Int) == 0) = false := by simp; omega
      have h2 : (1 : Int) < (X.size : Int) := by omega
      clear hX b hr
      go_enter Try.func24, Try.ntmps24
      go_wp2
      go_ret
      exact ⟨by rw [HR.out]; rfl, rfl⟩
  · have HR : Hid (r = false) := hr.trans (decide_eq_false (fun z => a z.1))
    have h2 : ¬ (1 : Int) < (X.size : Int) := by omega
    clear hX hr
    go_enter Try.func24, Try.ntmps24
    go_wp2
    go_ret
    exact ⟨by rw [HR.out]; rfl, rfl⟩
set_option maxHeartbeats 400000 in
theorem beyond_any (X : ByteArray) (i : Nat) (w : World) (hX : X.size = i + 1) (hi : i < 10) (hlt : i < X.size) :
    Calls Try.prog 25 #[.string X] w fun e w' => e = .returned (.bool (decide (i = 9 ∧ 1 < (X[i]'hlt).toNat))) ∧ w = w' := by
  obtain ⟨r, hr⟩ : ∃ r, r = decide (i = 9 ∧ 1 < (X[i]'hlt).toNat) := ⟨_, rfl⟩
  rw [← hr]
  by_cases a : i = 9
  · subst a
    have h2 : ((X.size : Int) == 10) = true := by simp; omega
    by_cases b : 1 < (X[9]'hlt).toNat
    · have HR : Hid (r = true) := hr.trans (decide_eq_true ⟨rfl, b⟩)
      have h1 : (1 : Int) < ((X[9]'hlt).toNat : Int) := by omega
      clear hX b hr
      go_enter Try.func25, Try.ntmps25
      go_wp2
      go_ret
      exact ⟨by rw [HR.out]; rfl, rfl⟩
    · have HR : Hid (r = false) := hr.trans (decide_eq_false (fun z => b z.2))
      have h1 : ¬ (1 : Int) < ((X[9]'hlt).toNat : Int) := by omega
      clear hX b hr
      go_enter Try.func25, Try.ntmps25
      go_wp2
      go_ret
      exact ⟨by rw [HR.out]; show Ending.returned (Value.bool (decide _)) = _; rw [decide_eq_false (by omega)], rfl⟩
  · have HR : Hid (r = false) := hr.trans (decide_eq_false (fun z => a z.1))
    have h2 : ((X.size : Int) == 10) = false := by simp; omega
    clear hX hr
    go_enter Try.func25, Try.ntmps25
    go_wp2
    go_ret
    exact ⟨by rw [HR.out]; rfl, rfl⟩

/-- one cell -/
theorem one_byte (c : UInt8) : ∀ u ∈ [Value.int .u8 (c.toNat : Int)], u.oneCell' = true := fun u hu => by simp at hu; subst hu; rfl
theorem one_new (w : World) (v : Value) (t : Nat) : ∀ (j : Nat) (u : Value), [v][j]? = some u → (w.alloc (.cells #[v] t)).cell? ((⟨w.heap.size, 0, none⟩ : Addr).add j) = some u := fun j u e => by
  cases j with
  | zero => simp at e; subst e; simp [Addr.add]
  | succ j => simp at e
theorem byteCells_snoc (p : List UInt8) (c : UInt8) : Lib.byteCells (p ++ [c]) = Lib.byteCells p ++ [Value.int .u8 (c.toNat : Int)] := by simp [Lib.byteCells]
theorem infoByte : (Try.prog.info? 5).map (fun i => (i.zero, i.size, i.bytes)) = some (some (.int .u8 0), 1, 1) := by kernel_rfl
/-- the digits behind, and the one that is laid -/
theorem low7 (u : Nat) : bits .or .u8 ((u : Int) % 256) 128 = (((UInt8.ofNat (u % 128 + 128)).toNat : Nat) : Int) := by
  have := u8_or_nat (u % 256) 128 (by omega) (by omega)
  rw [show ((u % 256 : Nat) : Int) = (u : Int) % 256 by omega, show ((128 : Nat) : Int) = 128 by rfl] at this
  rw [this, byte_of (by omega)]
  congr 1
  have h : u % 128 < 2 ^ 7 := by omega
  have e := Nat.two_pow_add_eq_or_of_lt (i := 7) h 1
  by_cases q : u % 256 < 128
  · rw [show u % 256 = u % 128 by omega, Nat.or_comm, show (128 : Nat) = 2 ^ 7 * 1 by rfl, ← e]; omega
  · have d := Nat.two_pow_add_eq_or_of_lt (i := 7) h 1
    rw [show u % 256 = 2 ^ 7 * 1 + u % 128 by omega, d, Nat.or_comm, ← Nat.or_assoc, show (128 : Nat) = 2 ^ 7 * 1 by rfl, Nat.or_self, ← d]; omega

theorem owned_bytes {w : World} {B : Nat} {v : Value} {p : List UInt8} (h : w.ownsRow B 5 1 v p.length (Lib.byteCells p)) (hp : p ≠ []) :
    ∃ g cap, v = .slice (some ⟨g, 0, none⟩) p.length cap ∧ Lib.Bytes w g 0 (str p) := by
  obtain ⟨hl, h | ⟨g, cap, cur, rfl, hb, hg, hn, hc, hs, ht⟩⟩ := h
  · exact absurd (List.eq_nil_of_length_eq_zero h.2) hp
  · refine ⟨g, cap, rfl, fun j hj => ?_⟩
    have hj' : j < p.length := by rwa [str_size] at hj
    rw [Nat.zero_add, cell_of_row w g j cur 5 (0, 0) hg]
    have h1 : cur.toList[j]? = (Lib.byteCells p)[j]? := by
      rw [← ht, List.getElem?_take, if_pos (by omega)]
    rw [← Array.getElem?_toList, h1]
    simp [Lib.byteCells, str, hj']
    rfl

set_option maxRecDepth 100000 in
set_option maxHeartbeats 2000000 in
theorem number_any (n : Int) (w : World) (hn : Am n) :
    Calls Try.prog 14 #[.int .i64 n] w fun e w' => e = .returned (.string (str (enc (fold n)))) ∧ Below w.heap.size w w' := by
  obtain ⟨i0, hi, hz0, hz1, hz2⟩ := info_parts infoByte
  have hu := fold_lt hn
  have HT := Lib.hid (enc_ten hu)
  have HF := Lib.hid (folded_any n w hn)
  obtain ⟨U, hU⟩ : ∃ U, U = fold n := ⟨_, rfl⟩
  rw [← hU] at HF HT hu ⊢
  clear hU hn
  go_enter Try.func14, Try.ntmps14
  go_wp2_with fail
  refine HF.out.mono ?_
  rintro e w' ⟨rfl, rfl⟩
  go_wp2_with fail
  go_loopw [3, 4] (fun v x wr => ∃ (p : List UInt8) (z : Nat), z < 18446744073709551616 ∧ x = .int .u64 (z : Int) ∧ p.length ≤ 9 ∧ Hid (p ++ enc z = enc U) ∧ Hid (wr.ownsRow w.heap.size 5 1 v p.length (Lib.byteCells p) ∧ Below w.heap.size w wr)) (fun _ x _ => (intOf x).toNat)
  case atStart => exact ⟨[], U, hu, rfl, by simp, rfl, World.ownsRow_nil _ _ _ _, Below.refl _ _⟩
  case round =>
    obtain ⟨p, z, hz, rfl, hp9, HE, HI⟩ := hrel
    by_cases hlt : z < 128
    · have hge : ¬ (128 : Int) ≤ (z : Int) := by omega
      obtain ⟨c, rfl⟩ : ∃ c : UInt8, z = c.toNat := ⟨UInt8.ofNat z, (byte_of (by omega)).symm⟩
      have HN : Hid (p ++ [c] = enc U) := by
        show p ++ [c] = enc U
        rw [← HE.out, enc_small hlt, UInt8.ofNat_toNat]
      have hown := HI.out.1
      have hsz := HI.out.2.size
      have HST : Hid (∀ (v' : Value) (w1 : World), w1.ownsRow w.heap.size 5 1 v' (p.length + 1) (Lib.byteCells p ++ [.int .u8 (c.toNat : Int)]) → (wr.alloc (.cells #[.int .u8 (c.toNat : Int)] 5)).grownBy w1 u3.ownBlock → w1.ownsRow w.heap.size 5 1 v' (p ++ [c]).length (Lib.byteCells (p ++ [c])) ∧ Below w.heap.size w w1) := fun v' w1 g1 g2 => by
        rw [byteCells_snoc, List.length_append]
        exact ⟨g1, (HI.out.2.alloc HI.out.2.size _).grown g2 (by simp; omega) (fun k hk => (hown.lt k hk).1)⟩
      have hm : ((c.toNat : Int) % 256) = (c.toNat : Int) := by omega
      clear HE HI
      go_wp2_with (first | (at_builtin; refine wpList_append_own _ rfl _ _ 49 rfl w.heap.size 5 i0 (.int .u8 0) 1 1 Try.underlying49 hi hz0 hz1 hz2 rfl (by decide) _ _ _ rfl (World.ownsRow.alloc hown _) ⟨wr.heap.size, 0, none⟩ 1 1 [.int .u8 (c.toNat : Int)] rfl rfl (one_new _ _ _) (one_byte _) ?d3 ?d4 ?d5 ?_))
      case d3 => unfold maxLen; omega
      case d4 => omega
      case d5 => (first | omega | (simp; omega))
      intro v' w1 hown' hgrow _
      have HNX := Lib.hid (HST.out v' w1 hown' hgrow)
      clear hown' hgrow hown HST
      obtain ⟨g, cap, rfl, hbytes⟩ := owned_bytes HNX.out.1 (by simp)
      have hcv := Lib.run_convert_whole (P := Try.prog) w1 49 5 9 Try.underlying49 Try.underlying5 Try.underlying9 g 0 _ hbytes cap
      rw [str_size, HN.out] at hcv
      have hpl : p.length + 1 = (enc U).length := by rw [← HN.out]; simp
      rw [List.length_append, List.length_singleton, hpl] at *
      have HB := Lib.hid HNX.out.2
      clear HNX HT HF hz hlt hu
      go_wp2
      go_ret
      exact ⟨rfl, HB.out⟩
    · have hge : (128 : Int) ≤ (z : Int) := by omega
      have hl := low7 z
      obtain ⟨c, hc⟩ : ∃ c, c = UInt8.ofNat (z % 128 + 128) := ⟨_, rfl⟩
      rw [← hc] at hl
      have hown := HI.out.1
      have hsz := HI.out.2.size
      have HST : Hid (∀ (v' : Value) (w1 : World), w1.ownsRow w.heap.size 5 1 v' (p.length + 1) (Lib.byteCells p ++ [.int .u8 (c.toNat : Int)]) → (wr.alloc (.cells #[.int .u8 (c.toNat : Int)] 5)).grownBy w1 u3.ownBlock → w1.ownsRow w.heap.size 5 1 v' (p ++ [c]).length (Lib.byteCells (p ++ [c])) ∧ Below w.heap.size w w1) := fun v' w1 g1 g2 => by
        rw [byteCells_snoc, List.length_append]
        exact ⟨g1, (HI.out.2.alloc HI.out.2.size _).grown g2 (by simp; omega) (fun k hk => (hown.lt k hk).1)⟩
      have HN : Hid ((p ++ [c]) ++ enc (z / 128) = enc U) := by
        show (p ++ [c]) ++ enc (z / 128) = enc U
        rw [← HE.out, enc_more hlt, hc, List.append_assoc]; rfl
      have hp8 : p.length ≤ 8 := by
        have := congrArg List.length HN.out
        rw [List.length_append, List.length_append, List.length_singleton] at this
        have := enc_pos (z / 128)
        have := HT.out
        omega
      have hd : (z : Int) / 128 = ((z / 128 : Nat) : Int) := by omega
      obtain ⟨y, hy⟩ : ∃ y, y = z / 128 := ⟨_, rfl⟩
      rw [← hy] at hd HN
      have hyz : y < z := by omega
      clear hc hy HE HI
      go_wp2_with (first | (at_builtin; refine wpList_append_own _ rfl _ _ 49 rfl w.heap.size 5 i0 (.int .u8 0) 1 1 Try.underlying49 hi hz0 hz1 hz2 rfl (by decide) _ _ _ rfl (World.ownsRow.alloc hown _) ⟨wr.heap.size, 0, none⟩ 1 1 [.int .u8 (c.toNat : Int)] rfl rfl (one_new _ _ _) (one_byte _) ?c3 ?c4 ?c5 ?_))
      case c3 => unfold maxLen; omega
      case c4 => omega
      case c5 => (first | omega | (simp; omega))
      intro v' w1 hown' hgrow _
      have HNX := Lib.hid (HST.out v' w1 hown' hgrow)
      clear hown' hgrow hown HST hl
      go_wp2
      go_roundw
      case rel => exact ⟨p ++ [c], y, by omega, rfl, by simp; omega, HN, HNX⟩
      case measure => simp [intOf]; omega
end Go.Proofs.Ytmfgdpbnnlmjhaa
