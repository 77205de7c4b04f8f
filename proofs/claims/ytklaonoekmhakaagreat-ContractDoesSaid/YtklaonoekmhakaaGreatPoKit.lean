/- Contract: portion.Out. -/
import Derived.Test.YtklaonoekmhakaaGreatPoShare
import Derived.Test.YtklaonoekmhakaaGreatByMath
import Derived.Test.YtklaonoekmhakaaGreatI
namespace Go.Proofs.YtklaonoekmhakaaGreat
open Go.RowKit

theorem sumTo_eq (f : Nat → Int) (n : Nat) : sumTo f n = sumN f n := by
  induction n with
  | zero => rfl
  | succ n ih => simp only [sumTo, sumN, ih]
theorem rankV_pos (n : Nat) (K : Nat → Int) (t : Nat) : 0 ≤ rankV n K t := by
  unfold rankV; apply sumN_pos; intro k _; split <;> omega
theorem Weights.share0 {size s : Int} {f : Nat → Int} {n t : Nat} (W : Weights f n s) (h : 0 ≤ size) (ht : t < n) : 0 ≤ shareV size f s n t ∧ shareV size f s n t ≤ size := by
  have a := W.part0 h ht; have b := W.room h ht; have c := rankV_pos n (restV size f s) t; have d := W.miss0 (size := size)
  unfold shareV
  split <;> omega

/-- why there are no portions; 0: there are -/
def outE (total : Int) (f : Nat → Int) (n : Nat) : Int :=
  if 64 < n then 4 else if n = 0 ∨ minN f n < 0 ∨ maxN f n = 0 then 1 else if ¬ (sumN f n ≤ 9223372036854775807) ∨ total = -9223372036854775808 then 3 else 0
def outV (total : Int) (f : Nat → Int) (n : Nat) (t : Nat) : Int := if 0 ≤ total then shareV total f (sumN f n) n t else -shareV (-total) f (sumN f n) n t
/-- what an answer of a list or an error is -/
def Listed (w : World) (err : Int) (n : Nat) (v : Nat → Int) (e : Ending) (w' : World) : Prop :=
  Below w.heap.size w w' ∧ ((err ≠ 0 ∧ e = .returned (.tuple #[.slice none 0 0, .int .i64 err])) ∨
    (err = 0 ∧ ∃ p, e = .returned (.tuple #[.slice (some ⟨p, 0, none⟩) n n, .int .i64 0]) ∧ w.heap.size ≤ p ∧ Ints w' p n v))
def Sorts (n : Nat) (K : Nat → Int) : Prop := ∃ h, Piece n K h 0 n ∧ SameSum n h

/-- a list of amounts, as an argument -/
def Arg (w : World) (a : Option Addr) (n : Nat) (f : Nat → Int) : Prop := 0 < n → ∃ b off, a = some ⟨b, off, none⟩ ∧ Row w b off n f

theorem out_full (total : Int) (a : Option Addr) (n cap : Nat) (w : World) (h : 64 < n) :
    Calls Tryz.prog 93 #[.int .i64 total, .slice a n cap] w fun e w' => e = .returned (.tuple #[.slice none 0 0, .int .i64 4]) ∧ w = w' := by
  go_enter Tryz.func93, Tryz.ntmps93
  go_wp2_with (first | (go_at_call 124; refine (check_full a n cap _ h).mono ?_; rintro e w' ⟨rfl, rfl⟩))
  go_ret2
  exact ⟨rfl, rfl⟩
theorem out_none (total : Int) (a : Option Addr) (cap : Nat) (w : World) :
    Calls Tryz.prog 93 #[.int .i64 total, .slice a 0 cap] w fun e w' => e = .returned (.tuple #[.slice none 0 0, .int .i64 1]) ∧ w = w' := by
  go_enter Tryz.func93, Tryz.ntmps93
  go_wp2_with (first | (go_at_call 124; refine (check_none a cap _).mono ?_; rintro e w' ⟨rfl, rfl⟩))
  go_ret2
  exact ⟨rfl, rfl⟩
theorem out_arg (total : Int) (f : Nat → Int) (b off n cap : Nat) (w : World) (h0 : 0 < n) (hn : n ≤ 64) (h : Row w b off n f) (he : minN f n < 0 ∨ maxN f n = 0) :
    Calls Tryz.prog 93 #[.int .i64 total, .slice (some ⟨b, off, none⟩) n cap] w fun e w' => e = .returned (.tuple #[.slice none 0 0, .int .i64 1]) ∧ w = w' := by
  have hk := check_some f b off n cap w h0 hn h
  rw [if_pos he] at hk
  have HK := Lib.hid hk
  clear hk h he
  go_enter Tryz.func93, Tryz.ntmps93
  go_wp2_with (first | (go_at_call 124; refine HK.out.mono ?_; rintro e w' ⟨rfl, rfl⟩))
  go_ret2
  exact ⟨rfl, rfl⟩

def OutPost (w : World) (total : Int) (f : Nat → Int) (n : Nat) (e : Ending) (w' : World) : Prop :=
  Listed w (if ¬ (sumN f n ≤ 9223372036854775807) ∨ total = -9223372036854775808 then 3 else 0) n (outV total f n) e w' ∧ (sumN f n ≤ 9223372036854775807 → total ≠ -9223372036854775808 → Sorts n (restV (if 0 ≤ total then total else -total) f (sumN f n)))

set_option maxHeartbeats 1000000 in
theorem out_some (total : Int) (f : Nat → Int) (b off n cap : Nat) (w : World) (hf : Amounts f) (t1 : -9223372036854775808 ≤ total) (t2 : total ≤ 9223372036854775807) (h0 : 0 < n) (hn : n ≤ 64) (h : Row w b off n f) (h1 : ¬ minN f n < 0) (h2 : maxN f n ≠ 0) :
    Calls Tryz.prog 93 #[.int .i64 total, .slice (some ⟨b, off, none⟩) n cap] w (OutPost w total f n) := by
  have hk := check_some f b off n cap w h0 hn h
  rw [if_neg (by omega)] at hk
  have HK := Lib.hid hk
  have HR := Lib.hid h
  have hp : ∀ k, k < n → 0 ≤ f k := fun k hk => by have := minN_le f hk; omega
  have HWt : sumN f n ≤ 9223372036854775807 → Hid (Weights f n (sumN f n)) := fun _ => ⟨hp, rfl, by
    obtain ⟨k, k1, k2⟩ := maxN_is f h0
    have q1 := sumN_term hp k1
    have q2 := hp k k1
    omega⟩
  have HS0 := Lib.hid (sumN_pos hp)
  have hs := sum_some f hf b off n cap w (by omega) h
  rw [sumTo_eq] at hs
  have HS := Lib.hid hs
  have HT : Hid (-9223372036854775808 ≤ sumN f n) := by have := HS0.out; show (-9223372036854775808 : Int) ≤ _; omega
  clear hk h hp h1 h2 hs hf
  by_cases hS : sumN f n ≤ 9223372036854775807
  · have HW := HWt hS
    have e1 := (tell_in HT.out hS).1
    have e2 := (tell_in HT.out hS).2
    rw [e1, e2] at HS
    have HS1 := Lib.hid hS
    clear HWt e1 e2
    obtain ⟨s, hs⟩ : ∃ s, s = sumN f n := ⟨_, rfl⟩
    rw [← hs] at HW HS
    have HSE := Lib.hid hs
    have s1 : s ≤ 9223372036854775807 := by omega
    clear hs hS
    by_cases ht : 0 ≤ total
    · go_enter Tryz.func93, Tryz.ntmps93
      go_wp2_with (first | (go_at_call 124; refine HK.out.mono ?_; rintro e w' ⟨rfl, rfl⟩))
      refine HS.out.mono ?_
      rintro e w1 ⟨rfl, hb1⟩
      have HB1 := Lib.hid hb1
      clear hb1
      go_wp2_with fail
      refine (share_any total s f b off n cap w1 HW.out ht t2 s1 hn (HR.out.below HB1.out)).mono ?_
      rintro e w2 ⟨p, rfl, hb2, hp0, hi, hsort⟩
      have HB2 := Lib.hid hb2
      have HI := Lib.hid hi
      have HO := Lib.hid hsort
      clear hb2 hi hsort
      go_wp2_with fail
      go_ret2
      have := HB1.out.size
      unfold OutPost
      rw [if_neg (by rw [← HSE.out]; omega)]
      refine ⟨⟨HB1.out.trans (HB2.out.mono this), .inr ⟨rfl, p, rfl, by omega, ints_same HI.out fun t htn => ?_⟩⟩, fun _ _ => ?_⟩
      · unfold outV; rw [if_pos ht, ← HSE.out]
      · rw [if_pos ht, ← HSE.out]; exact HO.out
    · by_cases hm : total = -9223372036854775808
      · subst hm
        go_enter Tryz.func93, Tryz.ntmps93
        go_wp2_with (first | (go_at_call 124; refine HK.out.mono ?_; rintro e w' ⟨rfl, rfl⟩))
        refine HS.out.mono ?_
        rintro e w1 ⟨rfl, hb1⟩
        have HB1 := Lib.hid hb1
        clear hb1
        have hl := less_calls 0 (-9223372036854775808) w1 (by omega) (by omega) (by omega) (by omega)
        rw [show tellV (0 - -9223372036854775808) = 0 by decide, show tellE (0 - -9223372036854775808) = 3 by decide] at hl
        have HL := Lib.hid hl
        clear hl
        go_wp2_with fail
        refine HL.out.mono ?_
        rintro e w2 ⟨rfl, hb2⟩
        go_wp2_with fail
        go_ret2
        have := HB1.out.size
        unfold OutPost
        rw [if_pos (.inr rfl)]
        exact ⟨⟨HB1.out.trans (hb2.mono this), .inl ⟨by decide, rfl⟩⟩, fun _ q => absurd rfl q⟩
      · have htz : decide (total ≥ 0) = false := by simp; omega
        go_enter Tryz.func93, Tryz.ntmps93
        go_wp2_with (first | (go_at_call 124; refine HK.out.mono ?_; rintro e w' ⟨rfl, rfl⟩))
        refine HS.out.mono ?_
        rintro e w1 ⟨rfl, hb1⟩
        have HB1 := Lib.hid hb1
        clear hb1
        have hl := less_calls 0 total w1 (by omega) (by omega) (by omega) (by omega)
        rw [(tell_in (v := 0 - total) (by omega) (by omega)).1, (tell_in (v := 0 - total) (by omega) (by omega)).2, show 0 - total = -total by omega] at hl
        have HL := Lib.hid hl
        clear hl
        go_wp2_with fail
        refine HL.out.mono ?_
        rintro e w2 ⟨rfl, hb2⟩
        have HB2 : Hid (Below w.heap.size w w2) := HB1.out.trans (hb2.mono HB1.out.size)
        have HR2 : Hid (Row w2 b off n f) := (HR.out.below HB1.out).below hb2
        clear hb2 HB1 HL HR
        obtain ⟨size, hsz⟩ : ∃ size, size = -total := ⟨_, rfl⟩
        rw [← hsz]
        have HSZ := Lib.hid hsz
        have z0 : 0 ≤ size := by omega
        have z1 : size ≤ 9223372036854775807 := by omega
        clear hsz
        go_wp2_with fail
        refine (share_any size s f b off n cap w2 HW.out z0 z1 s1 hn HR2.out).mono ?_
        rintro e w3 ⟨p, rfl, hb3, hp0, hi, hsort⟩
        have HP0 : Hid (w.heap.size ≤ p) := by have := HB2.out.size; show _ ≤ p; omega
        have HB3 : Hid (Below w.heap.size w w3) := HB2.out.trans (hb3.mono HB2.out.size)
        have HI := Lib.hid hi
        have HO := Lib.hid hsort
        clear hb3 hi hsort hp0 HB2 HR2
        obtain ⟨v, hv⟩ : ∃ v, v = shareV size f s n := ⟨_, rfl⟩
        have HV : Hid (∀ t, t < n → 0 ≤ v t ∧ v t ≤ 9223372036854775807) := fun t ht => by rw [hv]; have := HW.out.share0 z0 ht; omega
        rw [← hv] at HI
        have HVE := Lib.hid hv
        clear hv
        go_wp2_with fail
        go_loopw [45] (fun vi wr => ∃ k : Nat, k ≤ n ∧ vi = .int .i64 k ∧ Below w.heap.size w wr ∧ Ints wr p n (fun t => if t < k then -v t else v t)) (fun vi _ => n - (intOf vi).toNat)
        case atStart => exact ⟨0, Nat.zero_le _, rfl, HB3.out, by simpa using HI.out⟩
        case round =>
          clear HB3 HI
          obtain ⟨k, hk, rfl, hB, hI⟩ := hrel
          have HB := Lib.hid hB
          have HI := Lib.hid hI
          clear hB hI
          by_cases hlt : k < n
          · have c1 := (HI.out k hlt).1
            have c2 := (HI.out k hlt).2
            simp only [if_neg (show ¬ k < k by omega)] at c1
            have i1 : IntKind.i64.wrap (-v k) = -v k := by have := HV.out k hlt; rw [IntKind.wrap_i64]; omega
            go_wp2_with fail
            go_roundw
            case rel =>
              refine ⟨k + 1, by omega, by go_num, HB.out.setCell HP0.out _, ints_same (ints_set HI.out hlt (-v k)) fun t ht => ?_⟩
              by_cases e : t = k
              · rw [if_pos (by omega), if_pos e, e]
              · rw [if_neg e]
                by_cases q : t < k
                · rw [if_pos (by omega), if_pos q]
                · rw [if_neg (by omega), if_neg q]
            case measure => simp [intOf]; omega
          · have hke : k = n := by omega
            subst hke
            go_wp2_with fail
            go_ret2
            unfold OutPost
            rw [if_neg (by rw [← HSE.out]; omega)]
            refine ⟨⟨HB.out, .inr ⟨rfl, p, rfl, HP0.out, ints_same HI.out fun t htn => ?_⟩⟩, fun _ _ => ?_⟩
            · unfold outV; rw [if_neg (show ¬ 0 ≤ total by omega), if_pos htn, ← HSE.out, ← HSZ.out, ← HVE.out]
            · rw [if_neg (show ¬ 0 ≤ total by omega), ← HSE.out, ← HSZ.out]; exact HO.out
  · have e1 : tellV (sumN f n) = 0 := by unfold tellV; rw [if_neg (by omega)]
    have e2 : tellE (sumN f n) = 3 := by unfold tellE; rw [if_neg (by omega)]
    rw [e1, e2] at HS
    clear e1 e2 HWt
    have HS1 := Lib.hid hS
    clear hS
    go_enter Tryz.func93, Tryz.ntmps93
    go_wp2_with (first | (go_at_call 124; refine HK.out.mono ?_; rintro e w' ⟨rfl, rfl⟩))
    refine HS.out.mono ?_
    rintro e w1 ⟨rfl, hb1⟩
    go_wp2_with fail
    go_ret2
    unfold OutPost
    have hno : ¬ sumN f n ≤ 9223372036854775807 := by have := HS1.out; omega
    rw [if_pos (.inl hno)]
    exact ⟨⟨hb1, .inl ⟨by decide, rfl⟩⟩, fun q _ => absurd q hno⟩

theorem out_any (total : Int) (f : Nat → Int) (a : Option Addr) (n cap : Nat) (w : World) (hf : Amounts f) (t1 : -9223372036854775808 ≤ total) (t2 : total ≤ 9223372036854775807) (h : Arg w a n f) :
    Calls Tryz.prog 93 #[.int .i64 total, .slice a n cap] w fun e w' => Listed w (outE total f n) n (outV total f n) e w' ∧ (outE total f n = 0 → Sorts n (restV (if 0 ≤ total then total else -total) f (sumN f n))) := by
  unfold outE
  by_cases h1 : 64 < n
  · rw [if_pos h1]
    refine (out_full total a n cap w h1).mono ?_
    rintro e w' ⟨rfl, rfl⟩
    exact ⟨⟨Below.refl _ _, .inl ⟨by decide, rfl⟩⟩, fun q => absurd q (by decide)⟩
  · rw [if_neg h1]
    by_cases h2 : n = 0
    · subst h2
      rw [if_pos (.inl rfl)]
      refine (out_none total a cap w).mono ?_
      rintro e w' ⟨rfl, rfl⟩
      exact ⟨⟨Below.refl _ _, .inl ⟨by decide, rfl⟩⟩, fun q => absurd q (by decide)⟩
    · obtain ⟨b, off, rfl, hr⟩ := h (by omega)
      by_cases h3 : minN f n < 0 ∨ maxN f n = 0
      · rw [if_pos (.inr h3)]
        refine (out_arg total f b off n cap w (by omega) (by omega) hr h3).mono ?_
        rintro e w' ⟨rfl, rfl⟩
        exact ⟨⟨Below.refl _ _, .inl ⟨by decide, rfl⟩⟩, fun q => absurd q (by decide)⟩
      · rw [if_neg (by omega)]
        refine (out_some total f b off n cap w hf t1 t2 (by omega) (by omega) hr (by omega) (by omega)).mono ?_
        rintro e w' ⟨q1, q2⟩
        refine ⟨q1, fun q => q2 ?_ ?_⟩
        · apply Classical.byContradiction; intro q3; rw [if_pos (.inl q3)] at q; omega
        · intro q3; rw [if_pos (.inr q3)] at q; omega
end Go.Proofs.YtklaonoekmhakaaGreat

namespace Go.Proofs.YtklaonoekmhakaaGreat
open Go.RowKit

/-- marks that rise from 0 to a whole, up to a place -/
def RiseTo (f : Nat → Int) (whole : Int) (k : Nat) : Prop := ∀ t, t < k → (if t = 0 then 0 else f (t - 1)) ≤ f t ∧ f t ≤ whole
/-- the mark ahead; 0 of the first one -/
def aheadV (f : Nat → Int) (k : Nat) : Int := if k = 0 then 0 else f (k - 1)
theorem RiseTo.pos {f : Nat → Int} {whole : Int} {n : Nat} (h : RiseTo f whole n) : ∀ t, t < n → 0 ≤ f t := by
  intro t
  induction t with
  | zero => intro ht; have := (h 0 ht).1; simpa using this
  | succ t ih => intro ht; have a := ih (by omega); have := (h (t + 1) ht).1; rw [if_neg (by omega)] at this; simp only [Nat.add_sub_cancel] at this; omega

def stepP (total : Int) (f : Nat → Int) (whole : Int) (k : Nat) : Int := if k = 0 then 0 else total * f (k - 1) / whole
def stepV (total : Int) (f : Nat → Int) (whole : Int) (k : Nat) : Int := stepP total f whole (k + 1) - stepP total f whole k
theorem div_mono {a b w : Int} (hw : 1 ≤ w) (h : a ≤ b) : a / w ≤ b / w := Int.ediv_le_ediv (by omega) h
variable {total whole : Int} {f : Nat → Int} {n : Nat}
/-- why there are no steps; 0: there are -/
noncomputable def stepE (f : Nat → Int) (whole : Int) (n : Nat) : Int := by classical exact if 64 < n then 4 else if whole < 1 ∨ ¬ RiseTo f whole n then 1 else 0

end Go.Proofs.YtklaonoekmhakaaGreat

namespace Go.Proofs.YtklaonoekmhakaaGreat
open Go.RowKit

set_option maxRecDepth 100000 in
set_option maxHeartbeats 400000 in
theorem sum_zero (a : Option Addr) (cap : Nat) (w : World) :
    Calls Tryz.prog 27 #[.slice a 0 cap] w fun e w' => e = .returned (.tuple #[.int .i64 0, .int .i64 0]) ∧ Below w.heap.size w w' := by
  go_enter Tryz.func27, Tryz.ntmps27
  go_wp2_with fail
  go_loopw [6, 9] (fun _ i wr => i = .int .i64 0 ∧ SumAt w 0 wr) (fun _ _ _ => 0)
  case atStart => exact ⟨rfl, SumAt.start w⟩
  case round =>
    obtain ⟨rfl, hS⟩ := hrel
    have HS := Lib.hid hS
    clear hS
    obtain ⟨c0, c1, e0, e1⟩ := HS.out.2
    go_wp2_with fail
    refine (narrow_fit 0 _ (by omega) (by omega)).mono ?_
    rintro e w2 ⟨rfl, hb2⟩
    go_wp2_with fail
    go_ret2
    exact ⟨rfl, HS.out.1.trans (hb2.mono (by have := HS.out.2.lt; omega))⟩

set_option maxRecDepth 100000 in
set_option maxHeartbeats 400000 in
theorem total_zero (a0 : Option Addr) (cap : Nat) (w : World) : Calls Tryz.prog 80 #[.slice a0 0 cap] w (ExPost w 0) := by
  have HT := Lib.hid (tat_start w)
  go_enter Tryz.func80, Tryz.ntmps80
  go_wp2_with fail
  obtain ⟨W0, hW0⟩ : ∃ W0, W0 = ((w.alloc (.cells #[.int .i64 0, .slice none 0 0] 135)).alloc (.cells #[.int .i64 0, .slice none 0 0] 135)) := ⟨_, rfl⟩
  rw [← hW0] at HT
  rw [← hW0]
  clear hW0
  go_loopw [4] (fun i wr => i = .int .i64 0 ∧ TAt w 0 0 none 0 0 wr) (fun _ _ => 0)
  case atStart => exact ⟨rfl, HT.out⟩
  case round =>
    obtain ⟨rfl, hT⟩ := hrel
    have HS := Lib.hid hT
    clear hT
    obtain ⟨c0, c1, e0, e1⟩ := HS.out.2.2.2.1
    obtain ⟨d0, d1, g0, g1⟩ := HS.out.2.2.1.1
    go_wp2_with fail
    exact bodyPost_ret (v := .agg #[.int .i64 0, .slice none 0 0]) (by simp [results, Tryz.results80, go_sem, d0, d1]) rfl
      ⟨0, none, 0, 0, rfl, ex_store HS.out.2.2.1 HS.out.2.2.2.2.2 _ _, (HS.out.1.setCell (Nat.le_refl _) _).setCell (Nat.le_refl _) _⟩

/-- what the law needs of a row of amounts -/
def Told (w : World) (a : Option Addr) (len cap : Nat) (S : Int) : Prop :=
  Small S ∧ (∀ W, Below w.heap.size w W → Calls Tryz.prog 27 #[.slice a len cap] W fun e w' => e = .returned (.tuple #[.int .i64 (tellV S), .int .i64 (tellE S)]) ∧ Below W.heap.size W w') ∧
  (∀ W, Below w.heap.size w W → Calls Tryz.prog 80 #[.slice a len cap] W (ExPost W S))

end Go.Proofs.YtklaonoekmhakaaGreat

namespace Go.Proofs.YtklaonoekmhakaaGreat
open Go.RowKit

theorem arg_of {W : World} {b off n : Nat} {f : Nat → Int} (h : Row W b off n f) : Arg W (some ⟨b, off, none⟩) n f := fun _ => ⟨b, off, rfl, h⟩
theorem up1 {w W : World} (h : Below w.heap.size w W) (o : Obj) : Below w.heap.size w (W.alloc o) := h.alloc h.size _
theorem Row.alloc {W : World} {b off n : Nat} {f : Nat → Int} (h : Row W b off n f) (o : Obj) : Row (W.alloc o) b off n f := h.below ((Below.refl _ _).alloc (Nat.le_refl _) _)

/-- the sum of a list of amounts, by cents.Sum -/
theorem sum_arg (f : Nat → Int) (a : Option Addr) (n cap : Nat) (w : World) (hf : Amounts f) (hn : n ≤ 1000) (hA : Arg w a n f) :
    Calls Tryz.prog 27 #[.slice a n cap] w fun e w' => e = .returned (.tuple #[.int .i64 (tellV (sumN f n)), .int .i64 (tellE (sumN f n))]) ∧ Below w.heap.size w w' := by
  by_cases h0 : n = 0
  · subst h0
    exact sum_zero a cap w
  · obtain ⟨b, off, rfl, hr⟩ := hA (by omega)
    rw [← sumTo_eq]
    exact sum_some f hf b off n cap w (by omega) hr

/-- the law's loops: nothing that it reads is turned -/
structure NearAt (w : World) (a : Option Addr) (p n : Nat) (f v : Nat → Int) (W : World) : Prop where
  bel : Below w.heap.size w W
  ints : Ints W p n v
  arg : Arg W a n f
theorem NearAt.up {w W W' : World} {a : Option Addr} {p n : Nat} {f v : Nat → Int} (h : NearAt w a p n f v W) (hb : Below W.heap.size W W') : NearAt w a p n f v W' :=
  ⟨up2 h.bel hb, ints_up h.ints hb, fun q => by obtain ⟨b, off, e, r⟩ := h.arg q; exact ⟨b, off, e, r.below hb⟩⟩
end Go.Proofs.YtklaonoekmhakaaGreat
