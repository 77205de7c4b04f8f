/- The reference: even, Same. -/
import Derived.Test.YtginbgclifdfiaaRgA
namespace Go.Proofs.Ytginbgclifdfiaa
open Go.RowKit

/-- a sum so far, in the first new block -/
def Sm (w : World) (n s : Int) (a : Option Addr) (len cap : Nat) (W : World) : Prop :=
  Below w.heap.size w W ∧ w.heap.size + 1 ≤ W.heap.size ∧ Row2 W w.heap.size (.int .i64 s) (.slice a len cap) ∧ (∃ C fr, W.heap[w.heap.size]? = some (.cells C 68 fr)) ∧ Ex W s a len cap n
section
variable {w W W' : World} {n s m t : Int} {a b : Option Addr} {len cap len2 cap2 : Nat}
theorem Sm.up (h : Sm w n s a len cap W) (hb : Below W.heap.size W W') : Sm w n s a len cap W' := by
  obtain ⟨h1, h2, h4, ⟨C, fr, h5⟩, h6⟩ := h
  exact ⟨h1.trans (hb.mono (by omega)), Nat.le_trans h2 hb.size, h4.below hb, ⟨C, fr, by rw [hb.block _ (heap_lt h5)]; exact h5⟩, h6.below hb⟩
theorem Sm.ex (h : Sm w n s a len cap W) : Ex W s a len cap n := h.2.2.2.2
theorem Sm.drew (h : Sm w n s a len cap W) : Sm w n s a len cap W.drew := h.up (Below.refl _ _).drew
theorem Sm.put (h : Sm w n s a len cap W) (hE : Ex W t b len2 cap2 m) :
    Sm w m t b len2 cap2 ((W.setCell ⟨w.heap.size, 0, none⟩ (.int .i64 t)).setCell ⟨w.heap.size, 1, none⟩ (.slice b len2 cap2)) := by
  obtain ⟨h1, h2, h4, h5, h6⟩ := h
  obtain ⟨e1, l, e2, e3, e4⟩ := hE
  exact ⟨(h1.setCell (Nat.le_refl _) _).setCell (Nat.le_refl _) _, by simpa using h2, h4.put _ _, type_set (type_set h5 0 _) 1 _, ⟨e1, l, e2, (e3.set h5 0 _).set (type_set h5 0 _) 1 _, e4⟩⟩
theorem Sm.start (w : World) : Sm w 0 0 none 0 0 (w.alloc (.cells #[.int .i64 0, .slice none 0 0] 68)) :=
  ⟨(Below.refl _ _).alloc (Nat.le_refl _) _, by simp, Row2.new _ _ _ _, ⟨_, _, heap_alloc_new w _⟩, ex_zero rfl 0⟩
end
theorem sumC_bd (c : Int) : ∀ ps : List Po, (∀ x ∈ ps, Am x.m) → -(9223372036854775808 * (ps.length : Int)) ≤ sumC c ps ∧ sumC c ps ≤ 9223372036854775808 * (ps.length : Int)
  | [], _ => by simp [sumC]
  | x :: l, h => by
    have i := sumC_bd c l fun y hy => h y (by simp [hy])
    have k := h x (by simp)
    unfold Am at k
    simp only [sumC, List.length_cons]
    split <;> omega
theorem sumC_app (c : Int) (l l' : List Po) : sumC c (l ++ l') = sumC c l + sumC c l' := by
  induction l with
  | nil => simp [sumC]
  | cons x l ih => simp only [List.cons_append, sumC, ih]; omega
theorem sumC_take (c : Int) {ps : List Po} {j : Nat} {x : Po} (h : ps[j]? = some x) : sumC c (ps.take (j + 1)) = sumC c (ps.take j) + if x.c = c then x.m else 0 := by
  rw [List.take_add_one, h, sumC_app]; simp [sumC]
theorem sumC_small {ps : List Po} (h : ps.length ≤ 32) (hm : ∀ x ∈ ps, Am x.m) (c : Int) (j : Nat) : Small (sumC c (ps.take j)) := by
  have h2 := sumC_bd c (ps.take j) fun x hx => hm x (List.mem_of_mem_take hx)
  rw [List.length_take] at h2
  exact small_of (by omega) (by omega)
section
variable {w w' : World}
theorem PsA.at {a : Option Addr} {ps : List Po} {k : Nat} {x : Po} (h : PsA w a ps) (hx : ps[k]? = some x) : ∃ b o, a = some ⟨b, o, none⟩ ∧ w.cell? ⟨b, o + k * 3, none⟩ = some (.int .i64 x.a) ∧ w.cell? ⟨b, o + k * 3 + 1, none⟩ = some (.int .i64 x.c) ∧ w.cell? ⟨b, o + k * 3 + 2, none⟩ = some (.int .i64 x.m) := by
  rcases h with h | ⟨b, o, rfl, h⟩
  · rw [h] at hx; simp at hx
  · exact ⟨b, o, rfl, h k x hx⟩
set_option maxRecDepth 100000 in
set_option maxHeartbeats 8000000 in
theorem geven_any (a : Option Addr) (cap : Nat) (ps : List Po) (hp : PsA w a ps) (hl : ps.length ≤ 32) (hm : ∀ x ∈ ps, Am x.m) :
    Calls Try.prog 29 #[.slice a ps.length cap] w fun e w' => e = .returned (.bool (evenB ps)) ∧ Below w.heap.size w w' := by
  have HP := Lib.hid hp
  have HM := Lib.hid hm
  have HL := Lib.hid hl
  clear hp hm
  go_enter Try.func29, Try.ntmps29
  go_wp2_with fail
  go_loopw [3] (fun i wr => ∃ k : Nat, k ≤ ps.length ∧ i = .int .i64 k ∧ (∀ x ∈ ps.take k, sumC x.c ps = 0) ∧ Below w.heap.size w wr) (fun i _ => ps.length - (intOf i).toNat)
  case atStart => exact ⟨0, Nat.zero_le _, rfl, by simp, Below.refl _ _⟩
  case round =>
    obtain ⟨k, hk, rfl, hz, hb⟩ := hrel
    have HB := Lib.hid hb
    have HZ := Lib.hid hz
    by_cases hlt : k < ps.length
    · obtain ⟨x, hx⟩ : ∃ x, ps[k]? = some x := ⟨_, List.getElem?_eq_getElem hlt⟩
      have HX := Lib.hid hx
      obtain ⟨W1, hW1⟩ : ∃ W1, W1 = wr.alloc (.cells #[.int .i64 0, .slice none 0 0] 68) := ⟨_, rfl⟩
      have hs := Sm.start wr
      rw [← hW1] at hs
      have HS0 := Lib.hid hs
      have HW1 := Lib.hid hW1
      have hk0 : (0 : Int) ≤ (k : Int) := by omega
      have hk1 : (k : Int) < (ps.length : Int) := by omega
      clear hb hz hx hs hW1
      go_wp2_with fail
      rw [← HW1.out]
      obtain ⟨wo, hwo⟩ : ∃ wo : World, wo = wr := ⟨_, rfl⟩
      rw [← hwo] at HB HS0
      rw [← hwo]
      clear hwo HW1
      go_loopw [5] (fun i wr => ∃ j : Nat, j ≤ ps.length ∧ i = .int .i64 j ∧ ∃ s a l2 c2, Sm wo (sumC x.c (ps.take j)) s a l2 c2 wr) (fun i _ => ps.length - (intOf i).toNat)
      case atStart => exact ⟨0, Nat.zero_le _, rfl, _, _, _, _, HS0.out⟩
      case round =>
        obtain ⟨j, hj, rfl, s3, a3, l3, c3, hS⟩ := hrel
        have HS := Lib.hid hS
        have hb := up2 HB.out hS.1
        have HB2 := Lib.hid hb
        by_cases hjl : j < ps.length
        · obtain ⟨y, hy⟩ : ∃ y, ps[j]? = some y := ⟨_, List.getElem?_eq_getElem hjl⟩
          have HY := Lib.hid hy
          obtain ⟨f1, f2⟩ : Am y.m := HM.out y (List.mem_of_getElem? hy)
          obtain ⟨b, o, rfl, z0, z1, z2⟩ := (HP.out.up hb).at hy
          obtain ⟨b', o', e', t0, t1, t2⟩ := (HP.out.up hb).at HX.out
          injection e' with e'
          injection e' with e1 e2
          subst e1; subst e2
          have hj0 : (0 : Int) ≤ (j : Int) := by omega
          have hj1 : (j : Int) < (ps.length : Int) := by omega
          have HSm := Lib.hid (sumC_small HL.out HM.out x.c j)
          clear hS hb hy z0 t0 t2
          cases e1 : (y.c == x.c)
          · have HNo : Hid (¬ (y.c = x.c)) := by intro q; rw [q] at e1; simp at e1
            go_wp2_with fail
            go_region
            all_goals
              go_wp2_with fail
              go_roundw
              case rel => exact ⟨j + 1, by omega, by go_num, s3, a3, l3, c3, by rw [sumC_take _ HY.out, if_neg HNo.out, Int.add_zero]; exact HS.out.drew⟩
              case measure => simp [intOf]; omega
          · have hyes : y.c = x.c := by simpa using e1
            have HYes := Lib.hid hyes
            clear hyes
            obtain ⟨c0, c1, g0, g1⟩ := HS.out.2.2.1
            go_wp2_with fail
            go_region
            go_wp2_with fail
            go_region_with (first | (go_at_call 33; ((with_reducible refine (of_any y.m _ f1 f2).mono ?_); rintro e' w1 ⟨s1, a1, n1, p1, rfl, hE1, hb1⟩; have kT1 := Lib.hid (HS.out.drew.drew.up hb1); have kE1 := Lib.hid hE1; clear hE1 hb1; obtain ⟨u0, u1, v0, v1⟩ := kT1.out.2.2.1)) | (go_at_call 36; ((with_reducible refine (plus_ex s3 s1 (sumC x.c (ps.take j)) y.m a3 a1 l3 n1 c3 p1 _ kT1.out.ex kE1.out HSm.out (small64 f1 f2)).mono ?_); rintro e' w2 ⟨s2, a2, n2, p2, rfl, hE2, hb2⟩; have kT2 := Lib.hid (kT1.out.up hb2); have kE2 := Lib.hid hE2; clear hE2 hb2; obtain ⟨u2, u3, v2, v3⟩ := kT2.out.2.2.1)))
            all_goals
              go_wp2_with fail
              go_roundw
              case rel =>
                refine ⟨j + 1, by omega, by go_num, s2, a2, n2, p2, ?_⟩
                have := kT2.out.put kE2.out
                rw [sumC_take _ HY.out, if_pos HYes.out]; exact this
              case measure => simp [intOf]; omega
        · have hje : j = ps.length := by omega
          subst hje
          rw [List.take_length] at HS
          obtain ⟨c0, c1, g0, g1⟩ := HS.out.2.2.1
          have hsg := HS.out.ex.1
          clear hS hb
          by_cases hzz : sumC x.c ps = 0
          · have e1 : s3 = 0 := by rw [hsg, hzz]; rfl
            subst e1
            have HZz := Lib.hid hzz
            clear hzz hsg
            go_wp2_with fail
            refine ⟨⟨k + 1, by omega, by go_num, ?_, HB2.out⟩, by simp [intOf]; omega⟩
            intro z hz
            rw [List.take_add_one, HX.out] at hz
            rcases List.mem_append.1 hz with h | h
            · exact HZ.out z h
            · simp at h; rw [h]; exact HZz.out
          · have e1 : (s3 != 0) = true := by
              have : s3 ≠ 0 := by rw [hsg]; intro q; exact hzz (Int.sign_eq_zero_iff_zero.1 q)
              simpa using this
            have hev : evenB ps = false := List.all_eq_false.2 ⟨x, List.mem_of_getElem? HX.out, by simpa using hzz⟩
            have HEv := Lib.hid hev
            clear hzz hsg hev
            go_wp2_with fail
            go_ret
            exact ⟨by rw [HEv.out]; rfl, HB2.out⟩
    · have hev : evenB ps = true := List.all_eq_true.2 fun x hx => by
        have hke : k = ps.length := by omega
        rw [hke, List.take_length] at hz
        simpa using hz x hx
      have HEv := Lib.hid hev
      clear hz hev hb
      go_wp2_with fail
      go_ret
      exact ⟨by rw [HEv.out]; rfl, HB.out⟩
set_option maxRecDepth 100000 in
set_option maxHeartbeats 8000000 in
theorem gsame_true (a b : Option Addr) (cap cap' : Nat) (ps : List Po) (hp : PsA w a ps) (hp' : PsA w b ps) (hl : ps.length ≤ 32) :
    Calls Try.prog 24 #[.slice a ps.length cap, .slice b ps.length cap'] w fun e w' => e = .returned (.bool true) ∧ Below w.heap.size w w' := by
  have HP := Lib.hid hp
  have HQ := Lib.hid hp'
  have HL := Lib.hid hl
  clear hp hp'
  go_enter Try.func24, Try.ntmps24
  go_wp2_with fail
  go_loopw [5] (fun i wr => ∃ k : Nat, k ≤ ps.length ∧ i = .int .i64 k ∧ Below w.heap.size w wr) (fun i _ => ps.length - (intOf i).toNat)
  case atStart => exact ⟨0, Nat.zero_le _, rfl, Below.refl _ _⟩
  case round =>
    obtain ⟨k, hk, rfl, hb⟩ := hrel
    have HB := Lib.hid hb
    by_cases hlt : k < ps.length
    · obtain ⟨x, hx⟩ : ∃ x, ps[k]? = some x := ⟨_, List.getElem?_eq_getElem hlt⟩
      obtain ⟨b1, o1, rfl, z0, z1, z2⟩ := (HP.out.up hb).at hx
      obtain ⟨b2, o2, rfl, t0, t1, t2⟩ := (HQ.out.up hb).at hx
      have hk0 : (0 : Int) ≤ (k : Int) := by omega
      have hk1 : (k : Int) < (ps.length : Int) := by omega
      clear hb hx
      go_wp2_with fail
      go_region
      all_goals
        go_wp2_with fail
        go_roundw
        case rel => exact ⟨k + 1, by omega, by go_num, HB.out.drew⟩
        case measure => simp [intOf]; omega
    · clear hb
      go_wp2_with fail
      go_ret
      exact ⟨rfl, HB.out⟩
end
end Go.Proofs.Ytginbgclifdfiaa
