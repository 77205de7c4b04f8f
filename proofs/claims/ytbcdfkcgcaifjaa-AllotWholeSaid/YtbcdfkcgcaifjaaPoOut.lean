/- Contract: portion.Out. -/
import Derived.Test.YtbcdfkcgcaifjaaPoShare
namespace Go.Proofs.Ytbcdfkcgcaifjaa
open Go.RowKit

theorem sumTo_eq (f : Nat → Int) (n : Nat) : sumTo f n = sumN f n := by
  induction n with
  | zero => rfl
  | succ n ih => simp only [sumTo, sumN, ih]
theorem rankV_pos (n : Nat) (K : Nat → Int) (t : Nat) : 0 ≤ rankV n K t := by
  unfold rankV; apply sumN_pos; intro k _; split <;> omega
theorem Weights.share0 {size s : Int} {f : Nat → Int} {n t : Nat} (W : Weights f n s) (h : 0 ≤ size) (ht : t < n) : 0 ≤ shareV size f s n t ∧ shareV size f s n t ≤ size := by
  have a := W.part0 h ht; have b := W.room h ht; have c := rankV_pos n (restV size f s) t; have d := W.miss0 (size := size)
  unfold shareV
  split <;> omega

/-- why there are no portions; 0: there are -/
def outE (total : Int) (f : Nat → Int) (n : Nat) : Int :=
  if 64 < n then 4 else if n = 0 ∨ minN f n < 0 ∨ maxN f n = 0 then 1 else if ¬ (sumN f n ≤ 9223372036854775807) ∨ total = -9223372036854775808 then 3 else 0
def outV (total : Int) (f : Nat → Int) (n : Nat) (t : Nat) : Int := if 0 ≤ total then shareV total f (sumN f n) n t else -shareV (-total) f (sumN f n) n t
/-- what an answer of a list or an error is -/
def Listed (w : World) (err : Int) (n : Nat) (v : Nat → Int) (e : Ending) (w' : World) : Prop :=
  Below w.heap.size w w' ∧ ((err ≠ 0 ∧ e = .returned (.tuple #[.slice none 0 0, .int .i64 err])) ∨
    (err = 0 ∧ ∃ p, e = .returned (.tuple #[.slice (some ⟨p, 0, none⟩) n n, .int .i64 0]) ∧ w.heap.size ≤ p ∧ Ints w' p n v))
def Sorts (n : Nat) (K : Nat → Int) : Prop := ∃ h, Piece n K h 0 n ∧ SameSum n h

/-- a list of amounts, as an argument -/
def Arg (w : World) (a : Option Addr) (n : Nat) (f : Nat → Int) : Prop := 0 < n → ∃ b off, a = some ⟨b, off, none⟩ ∧ Row w b off n f

theorem out_full (total : Int) (a : Option Addr) (n cap : Nat) (w : World) (h : 64 < n) :
    Calls Try.prog 19 #[.int .i64 total, .slice a n cap] w fun e w' => e = .returned (.tuple #[.slice none 0 0, .int .i64 4]) ∧ w = w' := by
  go_enter Try.func19, Try.ntmps19
  go_wp2_with (first | (go_at_call 35; refine (check_full a n cap _ h).mono ?_; rintro e w' ⟨rfl, rfl⟩))
  go_ret2
  exact ⟨rfl, rfl⟩
theorem out_none (total : Int) (a : Option Addr) (cap : Nat) (w : World) :
    Calls Try.prog 19 #[.int .i64 total, .slice a 0 cap] w fun e w' => e = .returned (.tuple #[.slice none 0 0, .int .i64 1]) ∧ w = w' := by
  go_enter Try.func19, Try.ntmps19
  go_wp2_with (first | (go_at_call 35; refine (check_none a cap _).mono ?_; rintro e w' ⟨rfl, rfl⟩))
  go_ret2
  exact ⟨rfl, rfl⟩
theorem out_arg (total : Int) (f : Nat → Int) (b off n cap : Nat) (w : World) (h0 : 0 < n) (hn : n ≤ 64) (h : Row w b off n f) (he : minN f n < 0 ∨ maxN f n = 0) :
    Calls Try.prog 19 #[.int .i64 total, .slice (some ⟨b, off, none⟩) n cap] w fun e w' => e = .returned (.tuple #[.slice none 0 0, .int .i64 1]) ∧ w = w' := by
  have hk := check_some f b off n cap w h0 hn h
  rw [if_pos he] at hk
  have HK := Lib.hid hk
  clear hk h he
  go_enter Try.func19, Try.ntmps19
  go_wp2_with (first | (go_at_call 35; refine HK.out.mono ?_; rintro e w' ⟨rfl, rfl⟩))
  go_ret2
  exact ⟨rfl, rfl⟩

def OutPost (w : World) (total : Int) (f : Nat → Int) (n : Nat) (e : Ending) (w' : World) : Prop :=
  Listed w (if ¬ (sumN f n ≤ 9223372036854775807) ∨ total = -9223372036854775808 then 3 else 0) n (outV total f n) e w' ∧ (sumN f n ≤ 9223372036854775807 → total ≠ -9223372036854775808 → Sorts n (restV (if 0 ≤ total then total else -total) f (sumN f n)))

set_option maxHeartbeats 1000000 in
theorem out_some (total : Int) (f : Nat → Int) (b off n cap : Nat) (w : World) (hf : Amounts f) (t1 : -9223372036854775808 ≤ total) (t2 : total ≤ 9223372036854775807) (h0 : 0 < n) (hn : n ≤ 64) (h : Row w b off n f) (h1 : ¬ minN f n < 0) (h2 : maxN f n ≠ 0) :
    Calls Try.prog 19 #[.int .i64 total, .slice (some ⟨b, off, none⟩) n cap] w (OutPost w total f n) := by
  have hk := check_some f b off n cap w h0 hn h
  rw [if_neg (by omega)] at hk
  have HK := Lib.hid hk
  have HR := Lib.hid h
  have hp : ∀ k, k < n → 0 ≤ f k := fun k hk => by have := minN_le f hk; omega
  have HWt : sumN f n ≤ 9223372036854775807 → Hid (Weights f n (sumN f n)) := fun _ => ⟨hp, rfl, by
    obtain ⟨k, k1, k2⟩ := maxN_is f h0
    have q1 := sumN_term hp k1
    have q2 := hp k k1
    omega⟩
  have HS0 := Lib.hid (sumN_pos hp)
  have hs := sum_some f hf b off n cap w (by omega) h
  rw [sumTo_eq] at hs
  have HS := Lib.hid hs
  have HT : Hid (-9223372036854775808 ≤ sumN f n) := by have := HS0.out; show (-9223372036854775808 : Int) ≤ _; omega
  clear hk h hp h1 h2 hs hf
  by_cases hS : sumN f n ≤ 9223372036854775807
  · have HW := HWt hS
    have e1 := (tell_in HT.out hS).1
    have e2 := (tell_in HT.out hS).2
    rw [e1, e2] at HS
    have HS1 := Lib.hid hS
    clear HWt e1 e2
    obtain ⟨s, hs⟩ : ∃ s, s = sumN f n := ⟨_, rfl⟩
    rw [← hs] at HW HS
    have HSE := Lib.hid hs
    have s1 : s ≤ 9223372036854775807 := by omega
    clear hs hS
    by_cases ht : 0 ≤ total
    · go_enter Try.func19, Try.ntmps19
      go_wp2_with (first | (go_at_call 35; refine HK.out.mono ?_; rintro e w' ⟨rfl, rfl⟩))
      refine HS.out.mono ?_
      rintro e w1 ⟨rfl, hb1⟩
      have HB1 := Lib.hid hb1
      clear hb1
      go_wp2_with fail
      refine (share_any total s f b off n cap w1 HW.out ht t2 s1 hn (HR.out.below HB1.out)).mono ?_
      rintro e w2 ⟨p, rfl, hb2, hp0, hi, hsort⟩
      have HB2 := Lib.hid hb2
      have HI := Lib.hid hi
      have HO := Lib.hid hsort
      clear hb2 hi hsort
      go_wp2_with fail
      go_ret2
      have := HB1.out.size
      unfold OutPost
      rw [if_neg (by rw [← HSE.out]; omega)]
      refine ⟨⟨HB1.out.trans (HB2.out.mono this), .inr ⟨rfl, p, rfl, by omega, ints_same HI.out fun t htn => ?_⟩⟩, fun _ _ => ?_⟩
      · unfold outV; rw [if_pos ht, ← HSE.out]
      · rw [if_pos ht, ← HSE.out]; exact HO.out
    · by_cases hm : total = -9223372036854775808
      · subst hm
        go_enter Try.func19, Try.ntmps19
        go_wp2_with (first | (go_at_call 35; refine HK.out.mono ?_; rintro e w' ⟨rfl, rfl⟩))
        refine HS.out.mono ?_
        rintro e w1 ⟨rfl, hb1⟩
        have HB1 := Lib.hid hb1
        clear hb1
        have hl := less_calls 0 (-9223372036854775808) w1 (by omega) (by omega) (by omega) (by omega)
        rw [show tellV (0 - -9223372036854775808) = 0 by decide, show tellE (0 - -9223372036854775808) = 3 by decide] at hl
        have HL := Lib.hid hl
        clear hl
        go_wp2_with fail
        refine HL.out.mono ?_
        rintro e w2 ⟨rfl, hb2⟩
        go_wp2_with fail
        go_ret2
        have := HB1.out.size
        unfold OutPost
        rw [if_pos (.inr rfl)]
        exact ⟨⟨HB1.out.trans (hb2.mono this), .inl ⟨by decide, rfl⟩⟩, fun _ q => absurd rfl q⟩
      · have htz : decide (total ≥ 0) = false := by simp; omega
        go_enter Try.func19, Try.ntmps19
        go_wp2_with (first | (go_at_call 35; refine HK.out.mono ?_; rintro e w' ⟨rfl, rfl⟩))
        refine HS.out.mono ?_
        rintro e w1 ⟨rfl, hb1⟩
        have HB1 := Lib.hid hb1
        clear hb1
        have hl := less_calls 0 total w1 (by omega) (by omega) (by omega) (by omega)
        rw [(tell_in (v := 0 - total) (by omega) (by omega)).1, (tell_in (v := 0 - total) (by omega) (by omega)).2, show 0 - total = -total by omega] at hl
        have HL := Lib.hid hl
        clear hl
        go_wp2_with fail
        refine HL.out.mono ?_
        rintro e w2 ⟨rfl, hb2⟩
        have HB2 : Hid (Below w.heap.size w w2) := HB1.out.trans (hb2.mono HB1.out.size)
        have HR2 : Hid (Row w2 b off n f) := (HR.out.below HB1.out).below hb2
        clear hb2 HB1 HL HR
        obtain ⟨size, hsz⟩ : ∃ size, size = -total := ⟨_, rfl⟩
        rw [← hsz]
        have HSZ := Lib.hid hsz
        have z0 : 0 ≤ size := by omega
        have z1 : size ≤ 9223372036854775807 := by omega
        clear hsz
        go_wp2_with fail
        refine (share_any size s f b off n cap w2 HW.out z0 z1 s1 hn HR2.out).mono ?_
        rintro e w3 ⟨p, rfl, hb3, hp0, hi, hsort⟩
        have HP0 : Hid (w.heap.size ≤ p) := by have := HB2.out.size; show _ ≤ p; omega
        have HB3 : Hid (Below w.heap.size w w3) := HB2.out.trans (hb3.mono HB2.out.size)
        have HI := Lib.hid hi
        have HO := Lib.hid hsort
        clear hb3 hi hsort hp0 HB2 HR2
        obtain ⟨v, hv⟩ : ∃ v, v = shareV size f s n := ⟨_, rfl⟩
        have HV : Hid (∀ t, t < n → 0 ≤ v t ∧ v t ≤ 9223372036854775807) := fun t ht => by rw [hv]; have := HW.out.share0 z0 ht; omega
        rw [← hv] at HI
        have HVE := Lib.hid hv
        clear hv
        go_wp2_with fail
        go_loopw [45] (fun vi wr => ∃ k : Nat, k ≤ n ∧ vi = .int .i64 k ∧ Below w.heap.size w wr ∧ Ints wr p n (fun t => if t < k then -v t else v t)) (fun vi _ => n - (intOf vi).toNat)
        case atStart => exact ⟨0, Nat.zero_le _, rfl, HB3.out, by simpa using HI.out⟩
        case round =>
          clear HB3 HI
          obtain ⟨k, hk, rfl, hB, hI⟩ := hrel
          have HB := Lib.hid hB
          have HI := Lib.hid hI
          clear hB hI
          by_cases hlt : k < n
          · have c1 := (HI.out k hlt).1
            have c2 := (HI.out k hlt).2
            simp only [if_neg (show ¬ k < k by omega)] at c1
            have i1 : IntKind.i64.wrap (-v k) = -v k := by have := HV.out k hlt; rw [IntKind.wrap_i64]; omega
            go_wp2_with fail
            go_roundw
            case rel =>
              refine ⟨k + 1, by omega, by go_num, HB.out.setCell HP0.out _, ints_same (ints_set HI.out hlt (-v k)) fun t ht => ?_⟩
              by_cases e : t = k
              · rw [if_pos (by omega), if_pos e, e]
              · rw [if_neg e]
                by_cases q : t < k
                · rw [if_pos (by omega), if_pos q]
                · rw [if_neg (by omega), if_neg q]
            case measure => simp [intOf]; omega
          · have hke : k = n := by omega
            subst hke
            go_wp2_with fail
            go_ret2
            unfold OutPost
            rw [if_neg (by rw [← HSE.out]; omega)]
            refine ⟨⟨HB.out, .inr ⟨rfl, p, rfl, HP0.out, ints_same HI.out fun t htn => ?_⟩⟩, fun _ _ => ?_⟩
            · unfold outV; rw [if_neg (show ¬ 0 ≤ total by omega), if_pos htn, ← HSE.out, ← HSZ.out, ← HVE.out]
            · rw [if_neg (show ¬ 0 ≤ total by omega), ← HSE.out, ← HSZ.out]; exact HO.out
  · have e1 : tellV (sumN f n) = 0 := by unfold tellV; rw [if_neg (by omega)]
    have e2 : tellE (sumN f n) = 3 := by unfold tellE; rw [if_neg (by omega)]
    rw [e1, e2] at HS
    clear e1 e2 HWt
    have HS1 := Lib.hid hS
    clear hS
    go_enter Try.func19, Try.ntmps19
    go_wp2_with (first | (go_at_call 35; refine HK.out.mono ?_; rintro e w' ⟨rfl, rfl⟩))
    refine HS.out.mono ?_
    rintro e w1 ⟨rfl, hb1⟩
    go_wp2_with fail
    go_ret2
    unfold OutPost
    have hno : ¬ sumN f n ≤ 9223372036854775807 := by have := HS1.out; omega
    rw [if_pos (.inl hno)]
    exact ⟨⟨hb1, .inl ⟨by decide, rfl⟩⟩, fun q _ => absurd q hno⟩

theorem out_any (total : Int) (f : Nat → Int) (a : Option Addr) (n cap : Nat) (w : World) (hf : Amounts f) (t1 : -9223372036854775808 ≤ total) (t2 : total ≤ 9223372036854775807) (h : Arg w a n f) :
    Calls Try.prog 19 #[.int .i64 total, .slice a n cap] w fun e w' => Listed w (outE total f n) n (outV total f n) e w' ∧ (outE total f n = 0 → Sorts n (restV (if 0 ≤ total then total else -total) f (sumN f n))) := by
  unfold outE
  by_cases h1 : 64 < n
  · rw [if_pos h1]
    refine (out_full total a n cap w h1).mono ?_
    rintro e w' ⟨rfl, rfl⟩
    exact ⟨⟨Below.refl _ _, .inl ⟨by decide, rfl⟩⟩, fun q => absurd q (by decide)⟩
  · rw [if_neg h1]
    by_cases h2 : n = 0
    · subst h2
      rw [if_pos (.inl rfl)]
      refine (out_none total a cap w).mono ?_
      rintro e w' ⟨rfl, rfl⟩
      exact ⟨⟨Below.refl _ _, .inl ⟨by decide, rfl⟩⟩, fun q => absurd q (by decide)⟩
    · obtain ⟨b, off, rfl, hr⟩ := h (by omega)
      by_cases h3 : minN f n < 0 ∨ maxN f n = 0
      · rw [if_pos (.inr h3)]
        refine (out_arg total f b off n cap w (by omega) (by omega) hr h3).mono ?_
        rintro e w' ⟨rfl, rfl⟩
        exact ⟨⟨Below.refl _ _, .inl ⟨by decide, rfl⟩⟩, fun q => absurd q (by decide)⟩
      · rw [if_neg (by omega)]
        refine (out_some total f b off n cap w hf t1 t2 (by omega) (by omega) hr (by omega) (by omega)).mono ?_
        rintro e w' ⟨q1, q2⟩
        refine ⟨q1, fun q => q2 ?_ ?_⟩
        · apply Classical.byContradiction; intro q3; rw [if_pos (.inl q3)] at q; omega
        · intro q3; rw [if_pos (.inr q3)] at q; omega
end Go.Proofs.Ytbcdfkcgcaifjaa
