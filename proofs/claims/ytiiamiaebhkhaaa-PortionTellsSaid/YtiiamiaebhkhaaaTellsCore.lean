/- The law PortionTells, over a list of amounts. -/
import Derived.Test.YtiiamiaebhkhaaaRoSteps
namespace Go.Proofs.Ytiiamiaebhkhaaa
open Go.RowKit

theorem rsteps_any (total : Int) (f : Nat → Int) (a : Option Addr) (n cap : Nat) (whole : Int) (w : World) (hf : Amounts f) (t1 : -9223372036854775808 ≤ total) (t2 : total ≤ 9223372036854775807) (hw2 : whole ≤ 9223372036854775807) (hA : Arg w a n f) :
    Calls Try.prog 11 #[.int .i64 total, .slice a n cap, .int .i64 whole] w (RListed w (stepE f whole n) n (stepV total f whole)) := by
  by_cases h1 : 64 < n
  · have e : stepE f whole n = 4 := by unfold stepE; rw [if_pos h1]
    refine (rsteps_full total a n cap whole w h1).mono ?_
    rintro e' w' ⟨rfl, rfl⟩
    rw [e]; exact ⟨Below.refl _ _, .inl ⟨by decide, rfl⟩⟩
  · by_cases h2 : whole < 1
    · have e : stepE f whole n = 1 := by unfold stepE; rw [if_neg h1, if_pos (.inl h2)]
      refine (rsteps_whole total a n cap whole w (by omega) h2).mono ?_
      rintro e' w' ⟨rfl, rfl⟩
      rw [e]; exact ⟨Below.refl _ _, .inl ⟨by decide, rfl⟩⟩
    · exact rsteps_some total f a n cap whole w hf t1 t2 (by omega) (by omega) hw2 hA

/-- an answer of a list or an error, as one -/
def Both (w : World) (err : Int) (n : Nat) (v : Nat → Int) (e : Ending) (w' : World) : Prop :=
  ∃ a c, e = .returned (.tuple #[.slice a (if err = 0 then n else 0) c, .int .i64 err]) ∧ Below w.heap.size w w' ∧ Arg w' a (if err = 0 then n else 0) v
theorem listed_both {w w' : World} {err : Int} {n : Nat} {v : Nat → Int} {e : Ending} (h : Listed w err n v e w') : Both w err n v e w' := by
  obtain ⟨hb, ⟨h0, he⟩ | ⟨h0, p, he, _, hi⟩⟩ := h
  · exact ⟨none, 0, by rw [if_neg h0]; exact he, hb, by rw [if_neg h0]; exact fun q => by omega⟩
  · exact ⟨some ⟨p, 0, none⟩, n, by rw [if_pos h0, h0]; exact he, hb, by rw [if_pos h0]; exact fun _ => ⟨p, 0, rfl, fun t ht => by rw [Nat.zero_add]; exact (hi t ht).1⟩⟩
theorem rlisted_both {w w' : World} {err : Int} {n : Nat} {v : Nat → Int} {e : Ending} (h : RListed w err n v e w') : Both w err n v e w' := by
  obtain ⟨hb, ⟨h0, he⟩ | ⟨h0, p, c, he, _, hi⟩⟩ := h
  · exact ⟨none, 0, by rw [if_neg h0]; exact he, hb, by rw [if_neg h0]; exact fun q => by omega⟩
  · exact ⟨some ⟨p, 0, none⟩, c, by rw [if_pos h0, h0]; exact he, hb, by rw [if_pos h0]; exact fun _ => ⟨p, 0, rfl, fun t ht => by rw [Nat.zero_add]; exact (hi t ht).1⟩⟩
theorem Arg.below {w w' : World} {a : Option Addr} {n : Nat} {f : Nat → Int} (h : Arg w a n f) (hb : Below w.heap.size w w') : Arg w' a n f := fun q => by
  obtain ⟨b, off, e, r⟩ := h q; exact ⟨b, off, e, r.below hb⟩

theorem law_long3 (total : Int) (a : Option Addr) (n cap : Nat) (whole : Int) (w : World) (h : 70 < n) :
    Calls Try.prog 3 #[.int .i64 total, .slice a n cap, .int .i64 whole] w fun e w' => e = .returned (.bool true) ∧ Below w.heap.size w w' := by
  have hz : (70 : Int) < (n : Int) := by omega
  go_enter Try.func3, Try.ntmps3
  go_wp2_with fail
  refine (awake2 _).mono ?_
  rintro e w1 ⟨rfl, hb⟩
  go_wp2_with fail
  go_ret
  exact ⟨rfl, hb⟩

set_option maxRecDepth 100000 in
set_option maxHeartbeats 4000000 in
theorem tells_any (total : Int) (f : Nat → Int) (a : Option Addr) (n cap : Nat) (whole : Int) (w : World) (hf : Amounts f) (ht : Am total) (hwh : Am whole) (hn : n ≤ 70) (hA : Arg w a n f) :
    Calls Try.prog 3 #[.int .i64 total, .slice a n cap, .int .i64 whole] w fun e w' => e = .returned (.bool true) ∧ Below w.heap.size w w' := by
  obtain ⟨t1, t2⟩ := ht
  have HA := Lib.hid hA
  have HF := Lib.hid hf
  have HWh := Lib.hid hwh
  have hz : ¬ (70 : Int) < (n : Int) := by omega
  clear hA hf hwh
  go_enter Try.func3, Try.ntmps3
  go_wp2_with fail
  refine (awake2 _).mono ?_
  rintro e w1 ⟨rfl, hb⟩
  have HB1 := Lib.hid hb
  have HA1 := Lib.hid (HA.out.below hb)
  clear hb HA
  go_wp2_with fail
  refine ((out_any total f a n cap w1 HF.out t1 t2 HA1.out).mono fun e w' h => listed_both h.1).mono ?_
  rintro e w2 ⟨ra, ca, rfl, hb, ga⟩
  have HB2 := Lib.hid (up2 HB1.out hb)
  have HA2 := Lib.hid (HA1.out.below hb)
  have GA := Lib.hid ga
  clear hb ga HA1 HB1
  obtain ⟨e1, he1⟩ : ∃ e1, e1 = outE total f n := ⟨_, rfl⟩
  obtain ⟨m1, hm1⟩ : ∃ m1, m1 = if e1 = 0 then n else 0 := ⟨_, rfl⟩
  have M1 : Hid (m1 ≤ 70) := by show m1 ≤ 70; rw [hm1]; split <;> omega
  rw [← he1, ← hm1] at GA ⊢
  have HE1 := Lib.hid (And.intro he1 hm1)
  clear he1 hm1
  go_wp2_with fail
  refine ((rout_any total f a n cap w2 HF.out t1 t2 HA2.out).mono fun e w' h => rlisted_both h).mono ?_
  rintro e w3 ⟨rb, cb, rfl, hb, gb⟩
  have HB3 := Lib.hid (up2 HB2.out hb)
  have HA3 := Lib.hid (HA2.out.below hb)
  have GA3 := Lib.hid (GA.out.below hb)
  have GB := Lib.hid gb
  clear hb gb HA2 HB2 GA
  rw [← HE1.out.1, ← HE1.out.2] at GB ⊢
  clear HE1
  go_wp2_with fail
  refine ((steps_any total f a n cap whole w3 t1 t2 HWh.out.2 HA3.out).mono fun e w' h => listed_both h).mono ?_
  rintro e w4 ⟨rc, cc, rfl, hb, gc⟩
  have HB4 := Lib.hid (up2 HB3.out hb)
  have HA4 := Lib.hid (HA3.out.below hb)
  have GA4 := Lib.hid (GA3.out.below hb)
  have GB4 := Lib.hid (GB.out.below hb)
  have GC := Lib.hid gc
  clear hb gc HA3 HB3 GA3 GB
  obtain ⟨e2, he2⟩ : ∃ e2, e2 = stepE f whole n := ⟨_, rfl⟩
  obtain ⟨m2, hm2⟩ : ∃ m2, m2 = if e2 = 0 then n else 0 := ⟨_, rfl⟩
  have M2 : Hid (m2 ≤ 70) := by show m2 ≤ 70; rw [hm2]; split <;> omega
  rw [← he2, ← hm2] at GC ⊢
  have HE2 := Lib.hid (And.intro he2 hm2)
  clear he2 hm2
  go_wp2_with fail
  refine ((rsteps_any total f a n cap whole w4 HF.out t1 t2 HWh.out.2 HA4.out).mono fun e w' h => rlisted_both h).mono ?_
  rintro e w5 ⟨rd, cd, rfl, hb, gd⟩
  have HB5 := Lib.hid (up2 HB4.out hb)
  have GA5 := Lib.hid (GA4.out.below hb)
  have GB5 := Lib.hid (GB4.out.below hb)
  have GC5 := Lib.hid (GC.out.below hb)
  have GD := Lib.hid gd
  clear hb gd HA4 HB4 GA4 GB4 GC
  rw [← HE2.out.1, ← HE2.out.2] at GD ⊢
  clear HE2
  go_wp2_with fail
  refine (same_yes _ _ ra rb m1 ca cb w5 (by have := M1.out; omega) GA5.out GB5.out (fun _ _ => rfl)).mono ?_
  rintro e w6 ⟨rfl, hb⟩
  have HB6 := Lib.hid (up2 HB5.out hb)
  have GC6 := Lib.hid (GC5.out.below hb)
  have GD6 := Lib.hid (GD.out.below hb)
  clear hb HB5 GA5 GB5 GC5 GD
  go_wp2_with fail
  refine (same_yes _ _ rc rd m2 cc cd w6 (by have := M2.out; omega) GC6.out GD6.out (fun _ _ => rfl)).mono ?_
  rintro e w7 ⟨rfl, hb⟩
  have HB7 := Lib.hid (up2 HB6.out hb)
  clear hb HB6 GC6 GD6
  go_wp2_with fail
  go_ret
  exact ⟨rfl, HB7.out⟩
end Go.Proofs.Ytiiamiaebhkhaaa
