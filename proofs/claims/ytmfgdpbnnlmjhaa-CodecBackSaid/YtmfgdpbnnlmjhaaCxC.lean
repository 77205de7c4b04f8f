/- Numbers laid one behind the other: laid, for both kinds of them; one number as a list. -/
import Derived.Test.YtmfgdpbnnlmjhaaCxBu
namespace Go.Proofs.Ytmfgdpbnnlmjhaa
open Go.RowKit

/-- from place o of block b on the numbers xs lie -/
def Nums (w : World) (b o : Nat) (xs : List Int) : Prop := ∀ (j : Nat) x, xs[j]? = some x → w.cell? ⟨b, o + j, none⟩ = some (.int .i64 x)
theorem Nums.up {w w' : World} {b o : Nat} {xs : List Int} (h : Nums w b o xs) (q : Below w.heap.size w w') : Nums w' b o xs := fun j x e => kcell q (h j x e)
theorem Nums.drewN {w : World} {b o : Nat} {xs : List Int} (h : Nums w b o xs) (n : Nat) : Nums (w.drewN n) b o xs := fun j x e => by simpa using h j x e
theorem Nums.at {w : World} {b o : Nat} {xs : List Int} (h : Nums w b o xs) {j : Nat} (hj : j < xs.length) : w.cell? ⟨b, o + j, none⟩ = some (.int .i64 xs[j]) := h j _ (List.getElem?_eq_getElem hj)
/-- a list of numbers, perhaps none -/
def NumA (w : World) (a : Option Addr) (xs : List Int) : Prop := xs = [] ∨ ∃ b o, a = some ⟨b, o, none⟩ ∧ Nums w b o xs
theorem NumA.up {w w' : World} {a : Option Addr} {xs : List Int} (h : NumA w a xs) (q : Below w.heap.size w w') : NumA w' a xs := by
  rcases h with h | ⟨b, o, e, h⟩
  · exact .inl h
  · exact .inr ⟨b, o, e, h.up q⟩
theorem NumA.drewN {w : World} {a : Option Addr} {xs : List Int} (h : NumA w a xs) (n : Nat) : NumA (w.drewN n) a xs := by
  rcases h with h | ⟨b, o, e, h⟩
  · exact .inl h
  · exact .inr ⟨b, o, e, h.drewN n⟩
theorem NumA.at {w : World} {a : Option Addr} {xs : List Int} (h : NumA w a xs) {j : Nat} (hj : j < xs.length) : ∃ b o, a = some ⟨b, o, none⟩ ∧ w.cell? ⟨b, o + j, none⟩ = some (.int .i64 xs[j]) := by
  rcases h with h | ⟨b, o, e, h⟩
  · subst h; simp at hj
  · exact ⟨b, o, e, h.at hj⟩

/-- the bytes of numbers, one behind the other -/
def flat : List Int → List UInt8
  | [] => []
  | x :: xs => enc (fold x) ++ flat xs
theorem flat_app (xs ys : List Int) : flat (xs ++ ys) = flat xs ++ flat ys := by
  induction xs with
  | nil => rfl
  | cons x xs ih => simp [flat, ih]
theorem flat_one (x : Int) : flat [x] = enc (fold x) := by simp [flat]
theorem flat_next (xs : List Int) (k : Nat) (h : k < xs.length) : flat (xs.take (k + 1)) = flat (xs.take k) ++ enc (fold xs[k]) := by
  rw [List.take_succ_eq_append_getElem h, flat_app, flat_one]
theorem flat_len {xs : List Int} (h : ∀ x ∈ xs, Am x) : (flat xs).length ≤ 10 * xs.length := by
  induction xs with
  | nil => simp [flat]
  | cons x xs ih =>
    have h1 := ih (fun y hy => h y (by simp [hy]))
    have h2 := nl_ten (h x (by simp))
    unfold nl at h2
    simp only [flat, List.length_append, List.length_cons]
    omega
set_option maxRecDepth 100000 in
set_option maxHeartbeats 2000000 in
theorem laid64_any (a : Option Addr) (c : Nat) (xs : List Int) (w : World) (hX : NumA w a xs) (hm : ∀ x ∈ xs, Am x) (hn : xs.length ≤ 1000) :
    Calls Try.prog 23 #[.slice a xs.length c] w fun e w' => e = .returned (.string (str (flat xs))) ∧ Below w.heap.size w w' := by
  obtain ⟨N, hN⟩ : ∃ N, N = xs.length := ⟨_, rfl⟩
  rw [← hN] at hn ⊢
  have HX := Lib.hid hX
  have HM := Lib.hid hm
  have HL := Lib.hid hN
  clear hX hm hN
  go_enter Try.func23, Try.ntmps23
  go_wp2_with fail
  have H0 := Lib.hid (Bld.fresh w)
  have hb0 := Lib.hid (boxed w (.cells #[.pointer none, .slice none 0 0] 58))
  obtain ⟨W0, hW⟩ : ∃ W0, W0 = w.alloc (.cells #[.pointer none, .slice none 0 0] 58) := ⟨_, rfl⟩
  rw [← hW] at H0 hb0 ⊢
  clear hW
  go_loopw [8] (fun i wr => ∃ k : Nat, k ≤ N ∧ i = .int .i64 (k : Int) ∧ Hid (Bld wr w.heap.size w.heap.size (flat (xs.take k)) ∧ Below w.heap.size w wr)) (fun i _ => N - (intOf i).toNat)
  case atStart => exact ⟨0, Nat.zero_le _, rfl, by simpa [flat] using H0.out, hb0.out⟩
  case round =>
    obtain ⟨k, hk, rfl, HI⟩ := hrel
    by_cases hlt : k < N
    · have hkx : k < xs.length := by rw [← HL.out]; exact hlt
      obtain ⟨b, o, rfl, hcell⟩ := (HX.out.up HI.out.2).at hkx
      obtain ⟨x, hx⟩ : ∃ x, x = xs[k] := ⟨_, rfl⟩
      rw [← hx] at hcell
      have HA : Hid (Am x) := HM.out x (by rw [hx]; exact List.getElem_mem _)
      have HF := Lib.hid (flat_next xs k hkx)
      rw [← hx] at HF
      have HLn : Hid ((flat (xs.take k)).length ≤ 10000) := by
        have := flat_len (xs := xs.take k) (fun y hy => HM.out y (List.mem_of_mem_take hy))
        rw [List.length_take] at this
        show (flat (xs.take k)).length ≤ 10000
        omega
      clear hx
      go_wp2_with fail
      refine (number_any x wr HA.out).mono ?_
      rintro e w1 ⟨rfl, hb1⟩
      have HB := Lib.hid (HI.out.1.up hb1)
      have HC := Lib.hid (up2 HI.out.2 hb1)
      clear hb1
      go_wp2_with fail
      refine (HB.out.write (enc (fold x)) (by have := HLn.out; have := nl_ten HA.out; unfold nl at this; omega)).mono ?_
      rintro e w2 ⟨rfl, hb2, hb3⟩
      rw [← HF.out] at hb2
      have HD := Lib.hid (And.intro hb2 (HC.out.trans hb3))
      clear hb2 hb3
      go_wp2
      go_roundw
      case rel => exact ⟨k + 1, by omega, by go_num, HD⟩
      case measure => simp [intOf]; omega
    · have hkN : k = N := by omega
      have HD : Hid (Bld wr w.heap.size w.heap.size (flat xs) ∧ Below w.heap.size w wr) := by
        have := HI.out
        rw [List.take_of_length_le (by rw [hkN, HL.out]; omega)] at this
        exact this
      clear hkN HI
      go_wp2_with fail
      refine HD.out.1.told.mono ?_
      rintro e w1 ⟨rfl, hb1⟩
      go_wp2
      go_ret
      exact ⟨rfl, HD.out.2.trans hb1⟩
set_option maxRecDepth 100000 in
set_option maxHeartbeats 2000000 in
theorem laidI_any (a : Option Addr) (c : Nat) (xs : List Int) (w : World) (hX : NumA w a xs) (hm : ∀ x ∈ xs, Am x) (hn : xs.length ≤ 1000) :
    Calls Try.prog 30 #[.slice a xs.length c] w fun e w' => e = .returned (.string (str (flat xs))) ∧ Below w.heap.size w w' := by
  obtain ⟨N, hN⟩ : ∃ N, N = xs.length := ⟨_, rfl⟩
  rw [← hN] at hn ⊢
  have HX := Lib.hid hX
  have HM := Lib.hid hm
  have HL := Lib.hid hN
  clear hX hm hN
  go_enter Try.func30, Try.ntmps30
  go_wp2_with fail
  have H0 := Lib.hid (Bld.fresh w)
  have hb0 := Lib.hid (boxed w (.cells #[.pointer none, .slice none 0 0] 58))
  obtain ⟨W0, hW⟩ : ∃ W0, W0 = w.alloc (.cells #[.pointer none, .slice none 0 0] 58) := ⟨_, rfl⟩
  rw [← hW] at H0 hb0 ⊢
  clear hW
  go_loopw [8] (fun i wr => ∃ k : Nat, k ≤ N ∧ i = .int .i64 (k : Int) ∧ Hid (Bld wr w.heap.size w.heap.size (flat (xs.take k)) ∧ Below w.heap.size w wr)) (fun i _ => N - (intOf i).toNat)
  case atStart => exact ⟨0, Nat.zero_le _, rfl, by simpa [flat] using H0.out, hb0.out⟩
  case round =>
    obtain ⟨k, hk, rfl, HI⟩ := hrel
    by_cases hlt : k < N
    · have hkx : k < xs.length := by rw [← HL.out]; exact hlt
      obtain ⟨b, o, rfl, hcell⟩ := (HX.out.up HI.out.2).at hkx
      obtain ⟨x, hx⟩ : ∃ x, x = xs[k] := ⟨_, rfl⟩
      rw [← hx] at hcell
      have HA : Hid (Am x) := HM.out x (by rw [hx]; exact List.getElem_mem _)
      have HF := Lib.hid (flat_next xs k hkx)
      rw [← hx] at HF
      have HLn : Hid ((flat (xs.take k)).length ≤ 10000) := by
        have := flat_len (xs := xs.take k) (fun y hy => HM.out y (List.mem_of_mem_take hy))
        rw [List.length_take] at this
        show (flat (xs.take k)).length ≤ 10000
        omega
      clear hx
      go_wp2_with fail
      refine (number_any x wr HA.out).mono ?_
      rintro e w1 ⟨rfl, hb1⟩
      have HB := Lib.hid (HI.out.1.up hb1)
      have HC := Lib.hid (up2 HI.out.2 hb1)
      clear hb1
      go_wp2_with fail
      refine (HB.out.write (enc (fold x)) (by have := HLn.out; have := nl_ten HA.out; unfold nl at this; omega)).mono ?_
      rintro e w2 ⟨rfl, hb2, hb3⟩
      rw [← HF.out] at hb2
      have HD := Lib.hid (And.intro hb2 (HC.out.trans hb3))
      clear hb2 hb3
      go_wp2
      go_roundw
      case rel => exact ⟨k + 1, by omega, by go_num, HD⟩
      case measure => simp [intOf]; omega
    · have hkN : k = N := by omega
      have HD : Hid (Bld wr w.heap.size w.heap.size (flat xs) ∧ Below w.heap.size w wr) := by
        have := HI.out
        rw [List.take_of_length_le (by rw [hkN, HL.out]; omega)] at this
        exact this
      clear hkN HI
      go_wp2_with fail
      refine HD.out.1.told.mono ?_
      rintro e w1 ⟨rfl, hb1⟩
      go_wp2
      go_ret
      exact ⟨rfl, HD.out.2.trans hb1⟩
/-- a number alone, as a list -/
theorem nums_one (w : World) (n : Int) (t : Nat) : NumA (w.alloc (.cells #[.int .i64 n] t)) (some ⟨w.heap.size, 0, none⟩) [n] := by
  refine .inr ⟨_, _, rfl, fun j x e => ?_⟩
  cases j with
  | zero => simp at e; subst e; simp
  | succ j => simp at e
end Go.Proofs.Ytmfgdpbnnlmjhaa
