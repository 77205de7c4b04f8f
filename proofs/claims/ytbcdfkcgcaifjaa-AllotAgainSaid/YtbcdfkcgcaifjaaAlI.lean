/- AllotAgain. -/
import Derived.Test.YtbcdfkcgcaifjaaAlF
namespace Go.Proofs.Ytbcdfkcgcaifjaa
open Go.RowKit

theorem over_congr {d d' v : Nat → Int} {n : Nat} (h : ∀ t, t < n → d t = d' t) : overB d v n = overB d' v n := by
  induction n with
  | zero => rfl
  | succ n ih => simp only [overB]; rw [ih fun t ht => h t (by omega), h n (by omega)]
theorem again_congr {total : Int} {d d' f : Nat → Int} {n k : Nat} (h : ∀ t, t < n → d t = d' t) : againE total d n f k = againE total d' n f k ∧ ∀ t, t < n → againV total d n f k t = againV total d' n f k t := by
  have hs : sumN d n = sumN d' n := sumN_congr h
  have hv : leaveV total d n = leaveV total d' n := by unfold leaveV; rw [hs]
  have he : leaveE total d n = leaveE total d' n := by unfold leaveE; rw [hs]
  refine ⟨by unfold againE; rw [he, hv, over_congr h], fun t ht => by unfold againV; rw [hv, h t ht]⟩
theorem again_u (total : Int) (u f : Nat → Int) (a c : Option Addr) (n capa capc : Nat) (w : World) (hu : ∀ t, t < n → Am (u t)) (hf : Amounts f) (ht : Am total) (hn : n ≤ 1000) (hA : Arg w a n u) (hC : Arg w c n f) :
    Calls Try.prog 14 #[.int .i64 total, .slice a n capa, .slice c n capc] w fun e w' => Listed w (againE total u n f n) n (againV total u n f n) e w' := by
  have hc := again_congr (total := total) (f := f) (k := n) (d := upTo u n) (d' := u) (n := n) fun t ht => by rw [upTo, if_pos ht]
  refine (again_any total (upTo u n) f a c n n capa capc w (fun k => ?_) hf ht hn (fun q => ?_) hC).mono ?_
  · unfold upTo
    by_cases z : k < n
    · rw [if_pos z]; exact hu k z
    · rw [if_neg z]; omega
  · obtain ⟨b, off, e, hr⟩ := hA q
    exact ⟨b, off, e, fun k hk => by rw [upTo, if_pos hk]; exact hr k hk⟩
  · rintro e w' ⟨⟨hb, h⟩, _⟩
    rw [hc.1] at h
    rcases h with ⟨q, he⟩ | ⟨q, p, he, hp, hi⟩
    · exact ⟨hb, .inl ⟨q, he⟩⟩
    · exact ⟨hb, .inr ⟨q, p, he, hp, ints_same hi fun t ht => (hc.2 t ht).symm⟩⟩

set_option maxRecDepth 100000 in
set_option maxHeartbeats 2000000 in
theorem againl_long (price more : Int) (a : Option Addr) (n cap : Nat) (w : World) (h : 70 < n ∨ more < 0) :
    Calls Try.prog 6 #[.int .i64 price, .int .i64 more, .slice a n cap] w fun e w' => e = .returned (.bool true) ∧ Below w.heap.size w w' := by
  have key : ((70 : Int) < (n : Int)) ∨ (¬ (70 : Int) < (n : Int) ∧ more < 0) := by omega
  clear h
  rcases key with h1 | ⟨h1, h2⟩
  all_goals
    go_enter Try.func6, Try.ntmps6
    go_wp2_with fail
    refine (awake_any13 _).mono ?_
    rintro e w1 ⟨rfl, hb⟩
    have HB := Lib.hid hb
    clear hb
    go_wp2_with fail
    go_ret
    exact ⟨rfl, HB.out⟩

/-- what is allotted once, and then again -/
structure Ag (price more : Int) (f u : Nat → Int) (n : Nat) : Prop where
  am : ∀ t, t < n → Am (u t)
  ok : againE price u n f n = 0
  val : ∀ t, t < n → u t = againV price u n f n t
  more : tellE (price + more) = 0 → againE (tellV (price + more)) u n f n = 0 → ∀ t, t < n → u t ≤ againV (tellV (price + more)) u n f n t
theorem ag_of {price more : Int} {f : Nat → Int} {n : Nat} (hp : Am price) (h0 : ¬ more < 0) (hE : allE price f n = 0) (S : Sorts n (restV (if 0 ≤ price then price else -price) f (sumN f n))) : Ag price more f (outV price f n) n := by
  have ho : outE price f n = 0 := by
    unfold allE at hE
    by_cases z : price < 0
    · rw [if_pos z] at hE; omega
    · rw [if_neg z] at hE; exact hE
  obtain ⟨s1, s2⟩ := same_again ho hp S
  refine ⟨fun t ht => (out_facts hp.1 hp.2 ho ht).2.2.2, s1, fun t _ => (s2 t).symm, fun q1 q2 t ht => ?_⟩
  rcases tellE_or (price + more) with r | r
  · rw [r.2.1] at q2 ⊢
    exact more_again ho S (by omega) q2 ht
  · omega

set_option maxRecDepth 100000 in
set_option maxHeartbeats 4000000 in
theorem againl_short (price more : Int) (f : Nat → Int) (a : Option Addr) (n cap : Nat) (w : World) (ht : Am price) (hm : Am more) (hf : Amounts f) (hn : n ≤ 70) (h0 : ¬ more < 0) (hA : Arg w a n f) :
    Calls Try.prog 6 #[.int .i64 price, .int .i64 more, .slice a n cap] w fun e w' => e = .returned (.bool true) ∧ Below w.heap.size w w' := by
  have z1 : ¬ (70 : Int) < (n : Int) := by omega
  have z2 : decide (more < 0) = false := decide_eq_false h0
  have H1 := Lib.hid (fun (W : World) (q : Below w.heap.size w W) => all_any price f a n cap W hf ht (hA.up13 q))
  have HG := Lib.hid (fun (q : allE price f n = 0) (S : Sorts n (restV (if 0 ≤ price then price else -price) f (sumN f n))) => ag_of ht h0 q S)
  have H2 := Lib.hid (fun (total : Int) (hT : Am total) (u : Nat → Int) (hu : ∀ t, t < n → Am (u t)) (p : Nat) (W : World) (q : Below w.heap.size w W) (hP : Arg W (some ⟨p, 0, none⟩) n u) => again_u total u f (some ⟨p, 0, none⟩) a n n cap W hu hf hT (by omega) hP (hA.up13 q))
  have HAd := Lib.hid (fun (W : World) => add_any price more W ht.1 ht.2 hm.1 hm.2)
  have HT := Lib.hid (And.intro ht (tellV_am (price + more)))
  obtain ⟨V, hV⟩ : ∃ V, V = tellV (price + more) := ⟨_, rfl⟩
  obtain ⟨G, hG⟩ : ∃ G, G = tellE (price + more) := ⟨_, rfl⟩
  rw [← hV] at HT
  rw [← hV, ← hG] at HAd
  obtain ⟨E, hE⟩ : ∃ E, E = allE price f n := ⟨_, rfl⟩
  have HVG := Lib.hid (And.intro hV (And.intro hG hE))
  clear ht hm hf hA hV hG h0 hE
  go_enter Try.func6, Try.ntmps6
  go_wp2_with fail
  refine (awake_any13 _).mono ?_
  rintro e w1 ⟨rfl, hb⟩
  have HB1 := Lib.hid hb
  clear hb
  go_wp2_with fail
  refine (H1.out _ HB1.out).mono ?_
  rintro e w2 ⟨hl, hs⟩
  rw [← HVG.out.2.2] at hl
  by_cases q : E = 0
  · have HGG := Lib.hid (HG.out (HVG.out.2.2 ▸ q) (hs (HVG.out.2.2 ▸ q)))
    obtain ⟨p, rfl, hb, _, hi⟩ := listed_ok hl q
    obtain ⟨u, hu⟩ : ∃ u, u = outV price f n := ⟨_, rfl⟩
    rw [← hu] at HGG hi
    have HB2 := Lib.hid (up2 HB1.out hb)
    have HP2 := Lib.hid (ints_arg0 hi)
    have hg := HGG.out.more
    rw [← HVG.out.1, ← HVG.out.2.1] at hg
    have HMo := Lib.hid hg
    clear hb hi hl hs H1 HB1 HG hu hg HVG q
    go_wp2_with fail
    refine ((H2.out price HT.out.1 u HGG.out.am p _ HB2.out HP2.out).mono fun e w' h => listed_ok h HGG.out.ok).mono ?_
    rintro e w3 ⟨p3, rfl, hb, _, hi⟩
    have HB3 := Lib.hid (up2 HB2.out hb)
    have HP3 := Lib.hid (HP2.out.up13 hb)
    have HQ3 := Lib.hid (ints_arg0 hi)
    clear hb hi HB2 HP2
    go_wp2_with fail
    refine (same_yes u _ (some ⟨p, 0, none⟩) (some ⟨p3, 0, none⟩) n n n _ (by omega) HP3.out HQ3.out HGG.out.val).mono ?_
    rintro e w4 ⟨rfl, hb⟩
    have HB4 := Lib.hid (up2 HB3.out hb)
    have HP4 := Lib.hid (HP3.out.up13 hb)
    clear hb HB3 HP3 HQ3
    go_wp2_with fail
    refine (HAd.out _).mono ?_
    rintro e w5 ⟨rfl, hb⟩
    have HB5 := Lib.hid (up2 HB4.out hb)
    have HP5 := Lib.hid (HP4.out.up13 hb)
    clear hb HB4 HP4 HAd
    go_wp2_with fail
    refine (H2.out V HT.out.2 u HGG.out.am p _ HB5.out HP5.out).mono ?_
    rintro e w6 hl
    obtain ⟨F, hF⟩ : ∃ F, F = againE V u n f n := ⟨_, rfl⟩
    rw [← hF] at hl HMo
    clear hF H2 HT HGG
    by_cases q : F = 0
    · obtain ⟨p6, rfl, hb, _, hi⟩ := listed_ok hl q
      have HB6 := Lib.hid (up2 HB5.out hb)
      have HP6 := Lib.hid (HP5.out.up13 hb)
      obtain ⟨v, hv⟩ : ∃ v, v = againV V u n f n := ⟨_, rfl⟩
      rw [← hv] at hi HMo
      have HQ6 := Lib.hid hi
      clear hb hi hl HB5 HP5 hv
      by_cases q2 : G = 0
      · have HLe := Lib.hid (HMo.out q2 q)
        subst q2
        clear q HMo
        go_wp2_with fail
        go_loopw [69] (fun vi wr => ∃ k : Nat, k ≤ n ∧ vi = .int .i64 k ∧ Below w6.heap.size w6 wr) (fun vi _ => n - (intOf vi).toNat)
        case atStart => exact ⟨0, Nat.zero_le _, rfl, Below.refl _ _⟩
        case round =>
          obtain ⟨k, hk, rfl, hB⟩ := hrel
          have HB := Lib.hid hB
          clear hB
          by_cases hlt : k < n
          · obtain ⟨b, off, e1, hr⟩ := HP6.out (by omega)
            injection e1 with e1
            injection e1 with e2 e3 e4
            subst e2 e3
            have c1 := kcell HB.out (hr k hlt)
            rw [Nat.zero_add] at c1
            have c2 := kcell HB.out (HQ6.out k hlt).1
            have hle := HLe.out k hlt
            obtain ⟨x, hx⟩ : ∃ x, x = u k := ⟨_, rfl⟩
            obtain ⟨y, hy⟩ : ∃ y, y = v k := ⟨_, rfl⟩
            rw [← hx] at c1 hle
            rw [← hy] at c2 hle
            have hz : decide (y < x) = false := decide_eq_false (by omega)
            have hk0 : (0 : Int) ≤ (k : Int) := by omega
            have hkn : (k : Int) < (n : Int) := by omega
            clear hr hx hy hle e4
            go_wp2_with fail
            go_region
            all_goals
              go_wp2_with fail
              go_roundw
              case rel => exact ⟨k + 1, by omega, by go_num, blw HB.out _⟩
              case measure => simp [intOf]; omega
          · have hke : k = n := by omega
            subst hke
            have HBE := Lib.hid (up2 HB6.out HB.out)
            clear hk hlt
            go_wp2_with fail
            go_ret
            exact ⟨rfl, HBE.out⟩
      · have z : (G != 0) = true := by simp [q2]
        clear q q2 HMo
        go_wp2_with fail
        go_ret
        exact ⟨rfl, HB6.out⟩
    · obtain ⟨rfl, hb⟩ := listed_err hl q
      have HB6 := Lib.hid (up2 HB5.out hb)
      have z : (F != 0) = true := by simp [q]
      clear hb hl HB5 HP5 HMo q
      by_cases q2 : G = 0
      · subst q2
        go_wp2_with fail
        go_ret
        exact ⟨rfl, HB6.out⟩
      · have z : (G != 0) = true := by simp [q2]
        clear q2
        go_wp2_with fail
        go_ret
        exact ⟨rfl, HB6.out⟩
  · obtain ⟨rfl, hb⟩ := listed_err hl q
    have HB2 := Lib.hid (up2 HB1.out hb)
    have z : (E != 0) = true := by simp [q]
    clear hb hl hs HVG HG H2 HAd HT H1
    go_wp2_with fail
    go_ret
    exact ⟨rfl, HB2.out⟩
theorem again_law13 (price more : Int) (f : Nat → Int) (a : Option Addr) (n cap : Nat) (w : World) (ht : Am price) (hm : Am more) (hf : Amounts f) (hA : Arg w a n f) :
    Calls Try.prog 6 #[.int .i64 price, .int .i64 more, .slice a n cap] w fun e w' => e = .returned (.bool true) ∧ Below w.heap.size w w' := by
  by_cases h : 70 < n ∨ more < 0
  · exact againl_long price more a n cap w h
  · exact againl_short price more f a n cap w ht hm hf (by omega) (by omega) hA
end Go.Proofs.Ytbcdfkcgcaifjaa
