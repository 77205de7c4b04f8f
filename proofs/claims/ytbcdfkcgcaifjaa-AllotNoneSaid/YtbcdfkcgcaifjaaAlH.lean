/- AllotNone. -/
import Derived.Test.YtbcdfkcgcaifjaaAlF
namespace Go.Proofs.Ytbcdfkcgcaifjaa
open Go.RowKit

theorem seven {price : Int} (h0 : 0 ≤ price) (h : Am price) : allE price (l1 7) 1 = 0 ∧ ∀ t, t < 1 → outV price (l1 7) 1 t = l1 price t := by
  have hs : sumN (l1 7) 1 = 7 := rfl
  have ho : outE price (l1 7) 1 = 0 := outE_good (by decide) (by decide) (fun t _ => by show (1 : Int) ≤ 7; decide) (by rw [hs]; decide) (by unfold Am at h; omega)
  refine ⟨by unfold allE; rw [if_neg (by omega), ho], fun t _ => ?_⟩
  show _ = price
  exact out_exact ho h0 (by rw [hs]; show price * 7 = 7 * price; omega)
theorem seven_err {price : Int} (h0 : price < 0) : allE price (l1 7) 1 = 1 := by unfold allE; rw [if_pos h0]

set_option maxRecDepth 100000 in
set_option maxHeartbeats 2000000 in
theorem none_long (price : Int) (a d : Option Addr) (n m capa capd : Nat) (w : World) (h : 64 < n ∨ 70 < m) :
    Calls Try.prog 5 #[.slice a n capa, .slice d m capd, .int .i64 price] w fun e w' => e = .returned (.bool true) ∧ Below w.heap.size w w' := by
  have key : ((64 : Int) < (n : Int)) ∨ (¬ (64 : Int) < (n : Int) ∧ (70 : Int) < (m : Int)) := by omega
  clear h
  rcases key with h1 | ⟨h1, h2⟩
  all_goals
    go_enter Try.func5, Try.ntmps5
    go_wp2_with fail
    refine (awake_any13 _).mono ?_
    rintro e w1 ⟨rfl, hb⟩
    have HB := Lib.hid hb
    clear hb
    go_wp2_with fail
    go_ret
    exact ⟨rfl, HB.out⟩

set_option maxRecDepth 100000 in
set_option maxHeartbeats 2000000 in
theorem none_low (price : Int) (f : Nat → Int) (a d : Option Addr) (n m capa capd : Nat) (w : World) (hn : n ≤ 64) (hm : m ≤ 70) (hA : Arg w a n f) (h : ¬ ∀ t, t < n → 1 ≤ f t) :
    Calls Try.prog 5 #[.slice a n capa, .slice d m capd, .int .i64 price] w fun e w' => e = .returned (.bool true) ∧ Below w.heap.size w w' := by
  have z1 : ¬ (64 : Int) < (n : Int) := by omega
  have z2 : ¬ (70 : Int) < (m : Int) := by omega
  have HA := Lib.hid hA
  have HH := Lib.hid h
  clear hA h
  go_enter Try.func5, Try.ntmps5
  go_wp2_with fail
  refine (awake_any13 _).mono ?_
  rintro e w1 ⟨rfl, hb⟩
  have HB1 := Lib.hid hb
  clear hb
  go_wp2_with fail
  go_loop [31] (fun vi => ∃ k : Nat, k ≤ n ∧ vi = .int .i64 k ∧ Hid (∀ t, t < k → 1 ≤ f t)) (fun vi => n - (intOf vi).toNat)
  case atStart => exact ⟨0, Nat.zero_le _, rfl, fun t ht => by omega⟩
  case round =>
    obtain ⟨k, hk, rfl, HP⟩ := hrel
    by_cases hlt : k < n
    · obtain ⟨b, off, rfl, hr⟩ := HA.out (by omega)
      have c1 := kcell HB1.out (hr k hlt)
      clear hr
      have HP2 : Hid (1 ≤ f k → ∀ t, t < k + 1 → 1 ≤ f t) := fun q t ht => by
        by_cases e : t = k
        · subst e; exact q
        · exact HP.out t (by omega)
      obtain ⟨x, hx⟩ : ∃ x, x = f k := ⟨_, rfl⟩
      rw [← hx] at c1 HP2
      clear hx
      by_cases q : x < 1
      · go_wp2_with fail
        go_ret
        exact ⟨rfl, HB1.out⟩
      · have HN := Lib.hid (HP2.out (by omega))
        go_wp2_with fail
        go_round
        case rel => exact ⟨k + 1, by omega, by go_num, HN.out⟩
        case measure => simp [intOf]; omega
    · exact absurd (fun t ht => HP.out t (by omega)) HH.out

/-- all of it, once more than nothing -/
structure Nn (f p : Nat → Int) (n m : Nat) (S : Int) : Prop where
  sum : sumN f n = S
  am : Am S
  all : allE S f n = 0
  val : ∀ t, t < n → outV S f n t = f t
  some : someE S f n p m = 0 → ∀ t, t < n → someV S f n p m t = f t
theorem nn_of {f p : Nat → Int} {n m : Nat} (h0 : 0 < n) (hn : n ≤ 64) (hp : ∀ t, t < n → 1 ≤ f t) (hs : Am (sumN f n)) : Nn f p n m (sumN f n) := by
  have s0 : 0 ≤ sumN f n := sumN_pos fun t ht => by have := hp t ht; omega
  have ho : outE (sumN f n) f n = 0 := outE_good h0 hn hp hs.2 (by omega)
  exact ⟨rfl, hs, by unfold allE; rw [if_neg (by omega), ho], fun t _ => none_all ho s0 t, fun q t _ => none_some (some_ok q) t⟩

set_option maxRecDepth 100000 in
set_option maxHeartbeats 4000000 in
theorem none_out_neg (price : Int) (f : Nat → Int) (a d : Option Addr) (n m capa capd : Nat) (w : World) (ht : Am price) (hf : Amounts f) (hn : n ≤ 64) (hm : m ≤ 70) (hA : Arg w a n f) (h : ∀ t, t < n → 1 ≤ f t) (hp : price < 0) (hx : tellE (sumN f n) = 3 ∨ n = 0) :
    Calls Try.prog 5 #[.slice a n capa, .slice d m capd, .int .i64 price] w fun e w' => e = .returned (.bool true) ∧ Below w.heap.size w w' := by
  have z1 : ¬ (64 : Int) < (n : Int) := by omega
  have z2 : ¬ (70 : Int) < (m : Int) := by omega
  have H7 := Lib.hid (fun (W : World) => (all_any price (l1 7) (some ⟨W.heap.size, 0, none⟩) 1 1 _ (l1_am (by unfold Am; omega)) ht (lit1 W 2 7)).mono fun e w' h => listed_err h.1 (by rw [seven_err hp]; decide))
  rw [seven_err hp] at H7
  have HS := Lib.hid (fun (W : World) (q : Below w.heap.size w W) => sum_arg f a n capa W hf (by omega) (hA.up13 q))
  have HA := Lib.hid hA
  have HH := Lib.hid h
  obtain ⟨V, hV⟩ : ∃ V, V = tellV (sumN f n) := ⟨_, rfl⟩
  obtain ⟨E, hE⟩ : ∃ E, E = tellE (sumN f n) := ⟨_, rfl⟩
  rw [← hV, ← hE] at HS
  have key : (E != 0) = true ∨ ((E != 0) = false ∧ ((n : Int) == 0) = true) := by
    rcases hx with q | q
    · rw [← hE] at q; left; simp [q]
    · subst q
      right
      have : E = 0 := hE
      simp [this]
  clear hf ht hA h hE hV hx
  have HK := Lib.hid key
  clear key
  go_enter Try.func5, Try.ntmps5
  go_wp2_with fail
  refine (awake_any13 _).mono ?_
  rintro e w1 ⟨rfl, hb⟩
  have HB1 := Lib.hid hb
  clear hb
  go_wp2_with fail
  go_loop [31] (fun vi => ∃ k : Nat, k ≤ n ∧ vi = .int .i64 k) (fun vi => n - (intOf vi).toNat)
  case atStart => exact ⟨0, Nat.zero_le _, rfl⟩
  case round =>
    obtain ⟨k, hk, rfl⟩ := hrel
    by_cases hlt : k < n
    · obtain ⟨b, off, rfl, hr⟩ := HA.out (by omega)
      have c1 := kcell HB1.out (hr k hlt)
      have c2 := HH.out k hlt
      obtain ⟨x, hx⟩ : ∃ x, x = f k := ⟨_, rfl⟩
      rw [← hx] at c1 c2
      clear hr hx
      go_wp2_with fail
      go_round
      case rel => exact ⟨k + 1, by omega, by go_num⟩
      case measure => simp [intOf]; omega
    · have hke : k = n := by omega
      subst hke
      clear hk hlt
      go_wp2_with fail
      refine (H7.out w1).mono ?_
      rintro e w2 ⟨rfl, hb⟩
      have HB3 := Lib.hid (up2 HB1.out (up2 (boxed _ _) hb))
      clear hb HB1 H7
      go_wp2_with fail
      obtain ⟨w3, hw3⟩ : ∃ w3, w3 = w2 := ⟨_, rfl⟩
      rw [← hw3] at HB3 ⊢
      clear hw3
      refine (HS.out _ HB3.out).mono ?_
      rintro e w4 ⟨rfl, hb⟩
      have HB4 := Lib.hid (up2 HB3.out hb)
      clear hb HB3
      rcases HK.out with k1 | ⟨k1, k2⟩
      · go_wp2_with fail
        go_ret
        exact ⟨rfl, HB4.out⟩
      · go_wp2_with fail
        go_ret
        exact ⟨rfl, HB4.out⟩

set_option maxRecDepth 100000 in
set_option maxHeartbeats 4000000 in
theorem none_main_neg (price : Int) (f p : Nat → Int) (a d : Option Addr) (n m capa capd : Nat) (w : World) (ht : Am price) (hf : Amounts f) (hn : n ≤ 64) (hm : m ≤ 70) (hA : Arg w a n f) (hD : Arg w d m p) (h : ∀ t, t < n → 1 ≤ f t) (hp : price < 0) (S : Int) (N : Nn f p n m S) (h0 : 0 < n) :
    Calls Try.prog 5 #[.slice a n capa, .slice d m capd, .int .i64 price] w fun e w' => e = .returned (.bool true) ∧ Below w.heap.size w w' := by
  have z1 : ¬ (64 : Int) < (n : Int) := by omega
  have z2 : ¬ (70 : Int) < (m : Int) := by omega
  have H7 := Lib.hid (fun (W : World) => (all_any price (l1 7) (some ⟨W.heap.size, 0, none⟩) 1 1 _ (l1_am (by unfold Am; omega)) ht (lit1 W 2 7)).mono fun e w' h => listed_err h.1 (by rw [seven_err hp]; decide))
  rw [seven_err hp] at H7
  have HS := Lib.hid (fun (W : World) (q : Below w.heap.size w W) => sum_arg f a n capa W hf (by omega) (hA.up13 q))
  rw [N.sum, (tellE_am N.am).1, (tellE_am N.am).2] at HS
  have z3 : ((n : Int) == 0) = false := by simp; omega
  have H1 := Lib.hid (fun (W : World) (q : Below w.heap.size w W) => (all_any S f a n capa W hf N.am (hA.up13 q)).mono fun e w' h => listed_ok h.1 N.all)
  have H2 := Lib.hid (fun (W : World) (q : Below w.heap.size w W) => disc_any S f a n capa W hf N.am (by omega) (hA.up13 q))
  rw [N.sum, show S - S = 0 by omega, show tellV 0 = 0 by decide, show tellE 0 = 0 by decide] at H2
  have H3 := Lib.hid (fun (W : World) (q : Below w.heap.size w W) => some_any S f p a d n m capa capd W hf N.am (by omega) (by omega) (hA.up13 q) (hD.up13 q))
  have HV1 := Lib.hid N.val
  have HV3 := Lib.hid N.some
  have HA := Lib.hid hA
  have HH := Lib.hid h
  obtain ⟨E, hE⟩ : ∃ E, E = someE S f n p m := ⟨_, rfl⟩
  obtain ⟨v, hv⟩ : ∃ v, v = someV S f n p m := ⟨_, rfl⟩
  obtain ⟨u, hu⟩ : ∃ u, u = outV S f n := ⟨_, rfl⟩
  rw [← hE, ← hv] at HV3
  rw [← hu] at H1 HV1
  have HEv := Lib.hid (And.intro hE hv)
  clear hf ht hA hD h N hE hv hu
  go_enter Try.func5, Try.ntmps5
  go_wp2_with fail
  refine (awake_any13 _).mono ?_
  rintro e w1 ⟨rfl, hb⟩
  have HB1 := Lib.hid hb
  clear hb
  go_wp2_with fail
  go_loop [31] (fun vi => ∃ k : Nat, k ≤ n ∧ vi = .int .i64 k) (fun vi => n - (intOf vi).toNat)
  case atStart => exact ⟨0, Nat.zero_le _, rfl⟩
  case round =>
    obtain ⟨k, hk, rfl⟩ := hrel
    by_cases hlt : k < n
    · obtain ⟨b, off, rfl, hr⟩ := HA.out (by omega)
      have c1 := kcell HB1.out (hr k hlt)
      have c2 := HH.out k hlt
      obtain ⟨x, hx⟩ : ∃ x, x = f k := ⟨_, rfl⟩
      rw [← hx] at c1 c2
      clear hr hx
      go_wp2_with fail
      go_round
      case rel => exact ⟨k + 1, by omega, by go_num⟩
      case measure => simp [intOf]; omega
    · have hke : k = n := by omega
      subst hke
      clear hk hlt
      go_wp2_with fail
      refine (H7.out w1).mono ?_
      rintro e w2 ⟨rfl, hb⟩
      have HB3 := Lib.hid (up2 HB1.out (up2 (boxed _ _) hb))
      clear hb HB1 H7
      go_wp2_with fail
      obtain ⟨w3, hw3⟩ : ∃ w3, w3 = w2 := ⟨_, rfl⟩
      rw [← hw3] at HB3 ⊢
      clear hw3
      refine (HS.out _ HB3.out).mono ?_
      rintro e w4 ⟨rfl, hb⟩
      have HB4 := Lib.hid (up2 HB3.out hb)
      clear hb HB3 HS
      go_wp2_with fail
      refine (H1.out _ HB4.out).mono ?_
      rintro e w5 ⟨p5, rfl, hb, _, hi⟩
      have HB5 := Lib.hid (up2 HB4.out hb)
      have HP5 := Lib.hid (ints_arg0 hi)
      clear hb hi HB4 H1
      go_wp2_with fail
      refine (H2.out _ HB5.out).mono ?_
      rintro e w6 ⟨rfl, hb⟩
      have HB6 := Lib.hid (up2 HB5.out hb)
      have HP5 := Lib.hid (HP5.out.up13 hb)
      clear hb HB5 H2
      go_wp2_with fail
      refine (H3.out _ HB6.out).mono ?_
      rintro e w7 ⟨hl, _⟩
      rw [← HEv.out.1, ← HEv.out.2] at hl
      by_cases q : E = 0
      · obtain ⟨p7, rfl, hb, _, hi⟩ := listed_ok hl q
        have HB7 := Lib.hid (up2 HB6.out hb)
        have HP5 := Lib.hid (HP5.out.up13 hb)
        have HP7 := Lib.hid (ints_arg0 hi)
        have HA7 := Lib.hid (HA.out.up13 HB7.out)
        have HVv := Lib.hid (HV3.out q)
        clear hb hi hl HB6 H3 HEv q HV3
        go_wp2_with fail
        refine (same_yes _ f (some ⟨p5, 0, none⟩) a k k capa _ (by omega) HP5.out HA7.out HV1.out).mono ?_
        rintro e w8 ⟨rfl, hb⟩
        have HB8 := Lib.hid (up2 HB7.out hb)
        have HP8 := Lib.hid (HP7.out.up13 hb)
        have HA8 := Lib.hid (HA7.out.up13 hb)
        clear hb HB7 HP7 HA7 HP5
        go_wp2_with fail
        refine (same_yes _ f (some ⟨p7, 0, none⟩) a k k capa _ (by omega) HP8.out HA8.out HVv.out).mono ?_
        rintro e w9 ⟨rfl, hb⟩
        have HB9 := Lib.hid (up2 HB8.out hb)
        clear hb
        go_wp2_with fail
        go_ret
        exact ⟨rfl, HB9.out⟩
      · obtain ⟨rfl, hb⟩ := listed_err hl q
        have HB7 := Lib.hid (up2 HB6.out hb)
        have HP5 := Lib.hid (HP5.out.up13 hb)
        have HA7 := Lib.hid (HA.out.up13 HB7.out)
        have z : (E != 0) = true := by simp [q]
        clear hb hl HB6 H3 HEv q HV3
        go_wp2_with fail
        refine (same_yes _ f (some ⟨p5, 0, none⟩) a k k capa _ (by omega) HP5.out HA7.out HV1.out).mono ?_
        rintro e w8 ⟨rfl, hb⟩
        have HB8 := Lib.hid (up2 HB7.out hb)
        clear hb HB7 HA7 HP5
        go_wp2_with fail
        go_ret
        exact ⟨rfl, HB8.out⟩

set_option maxRecDepth 100000 in
set_option maxHeartbeats 4000000 in
theorem none_out_pos (price : Int) (f : Nat → Int) (a d : Option Addr) (n m capa capd : Nat) (w : World) (ht : Am price) (hf : Amounts f) (hn : n ≤ 64) (hm : m ≤ 70) (hA : Arg w a n f) (h : ∀ t, t < n → 1 ≤ f t) (hp : ¬ price < 0) (hx : tellE (sumN f n) = 3 ∨ n = 0) :
    Calls Try.prog 5 #[.slice a n capa, .slice d m capd, .int .i64 price] w fun e w' => e = .returned (.bool true) ∧ Below w.heap.size w w' := by
  have z1 : ¬ (64 : Int) < (n : Int) := by omega
  have z2 : ¬ (70 : Int) < (m : Int) := by omega
  have H7 := Lib.hid (fun (W : World) => (all_any price (l1 7) (some ⟨W.heap.size, 0, none⟩) 1 1 _ (l1_am (by unfold Am; omega)) ht (lit1 W 2 7)).mono fun e w' h => listed_ok h.1 (seven (by omega) ht).1)
  have HSv := Lib.hid (seven (by omega) ht).2
  have HS := Lib.hid (fun (W : World) (q : Below w.heap.size w W) => sum_arg f a n capa W hf (by omega) (hA.up13 q))
  have HA := Lib.hid hA
  have HH := Lib.hid h
  obtain ⟨V, hV⟩ : ∃ V, V = tellV (sumN f n) := ⟨_, rfl⟩
  obtain ⟨E, hE⟩ : ∃ E, E = tellE (sumN f n) := ⟨_, rfl⟩
  rw [← hV, ← hE] at HS
  have key : (E != 0) = true ∨ ((E != 0) = false ∧ ((n : Int) == 0) = true) := by
    rcases hx with q | q
    · rw [← hE] at q; left; simp [q]
    · subst q
      right
      have : E = 0 := hE
      simp [this]
  clear hf ht hA h hE hV hx
  have HK := Lib.hid key
  clear key
  go_enter Try.func5, Try.ntmps5
  go_wp2_with fail
  refine (awake_any13 _).mono ?_
  rintro e w1 ⟨rfl, hb⟩
  have HB1 := Lib.hid hb
  clear hb
  go_wp2_with fail
  go_loop [31] (fun vi => ∃ k : Nat, k ≤ n ∧ vi = .int .i64 k) (fun vi => n - (intOf vi).toNat)
  case atStart => exact ⟨0, Nat.zero_le _, rfl⟩
  case round =>
    obtain ⟨k, hk, rfl⟩ := hrel
    by_cases hlt : k < n
    · obtain ⟨b, off, rfl, hr⟩ := HA.out (by omega)
      have c1 := kcell HB1.out (hr k hlt)
      have c2 := HH.out k hlt
      obtain ⟨x, hx⟩ : ∃ x, x = f k := ⟨_, rfl⟩
      rw [← hx] at c1 c2
      clear hr hx
      go_wp2_with fail
      go_round
      case rel => exact ⟨k + 1, by omega, by go_num⟩
      case measure => simp [intOf]; omega
    · have hke : k = n := by omega
      subst hke
      clear hk hlt
      go_wp2_with fail
      refine (H7.out w1).mono ?_
      rintro e w2 ⟨p1, rfl, hb, _, hi⟩
      have HB2 := Lib.hid (up2 HB1.out (up2 (boxed _ _) hb))
      have HP1 := Lib.hid (ints_arg0 hi)
      clear hb hi HB1 H7
      go_wp2_with fail
      refine (same_yes _ (l1 price) (some ⟨p1, 0, none⟩) (some ⟨w2.heap.size, 0, none⟩) 1 1 1 _ (by decide) (HP1.out.up13 (boxed _ _)) (lit1 w2 2 price) HSv.out).mono ?_
      rintro e w3 ⟨rfl, hb⟩
      have HB3 := Lib.hid (up2 HB2.out (up2 (boxed _ _) hb))
      clear hb HB2 HP1
      go_wp2_with fail
      refine (HS.out _ HB3.out).mono ?_
      rintro e w4 ⟨rfl, hb⟩
      have HB4 := Lib.hid (up2 HB3.out hb)
      clear hb HB3
      rcases HK.out with k1 | ⟨k1, k2⟩
      · go_wp2_with fail
        go_ret
        exact ⟨rfl, HB4.out⟩
      · go_wp2_with fail
        go_ret
        exact ⟨rfl, HB4.out⟩

set_option maxRecDepth 100000 in
set_option maxHeartbeats 4000000 in
theorem none_main_pos (price : Int) (f p : Nat → Int) (a d : Option Addr) (n m capa capd : Nat) (w : World) (ht : Am price) (hf : Amounts f) (hn : n ≤ 64) (hm : m ≤ 70) (hA : Arg w a n f) (hD : Arg w d m p) (h : ∀ t, t < n → 1 ≤ f t) (hp : ¬ price < 0) (S : Int) (N : Nn f p n m S) (h0 : 0 < n) :
    Calls Try.prog 5 #[.slice a n capa, .slice d m capd, .int .i64 price] w fun e w' => e = .returned (.bool true) ∧ Below w.heap.size w w' := by
  have z1 : ¬ (64 : Int) < (n : Int) := by omega
  have z2 : ¬ (70 : Int) < (m : Int) := by omega
  have H7 := Lib.hid (fun (W : World) => (all_any price (l1 7) (some ⟨W.heap.size, 0, none⟩) 1 1 _ (l1_am (by unfold Am; omega)) ht (lit1 W 2 7)).mono fun e w' h => listed_ok h.1 (seven (by omega) ht).1)
  have HSv := Lib.hid (seven (by omega) ht).2
  have HS := Lib.hid (fun (W : World) (q : Below w.heap.size w W) => sum_arg f a n capa W hf (by omega) (hA.up13 q))
  rw [N.sum, (tellE_am N.am).1, (tellE_am N.am).2] at HS
  have z3 : ((n : Int) == 0) = false := by simp; omega
  have H1 := Lib.hid (fun (W : World) (q : Below w.heap.size w W) => (all_any S f a n capa W hf N.am (hA.up13 q)).mono fun e w' h => listed_ok h.1 N.all)
  have H2 := Lib.hid (fun (W : World) (q : Below w.heap.size w W) => disc_any S f a n capa W hf N.am (by omega) (hA.up13 q))
  rw [N.sum, show S - S = 0 by omega, show tellV 0 = 0 by decide, show tellE 0 = 0 by decide] at H2
  have H3 := Lib.hid (fun (W : World) (q : Below w.heap.size w W) => some_any S f p a d n m capa capd W hf N.am (by omega) (by omega) (hA.up13 q) (hD.up13 q))
  have HV1 := Lib.hid N.val
  have HV3 := Lib.hid N.some
  have HA := Lib.hid hA
  have HH := Lib.hid h
  obtain ⟨E, hE⟩ : ∃ E, E = someE S f n p m := ⟨_, rfl⟩
  obtain ⟨v, hv⟩ : ∃ v, v = someV S f n p m := ⟨_, rfl⟩
  obtain ⟨u, hu⟩ : ∃ u, u = outV S f n := ⟨_, rfl⟩
  rw [← hE, ← hv] at HV3
  rw [← hu] at H1 HV1
  have HEv := Lib.hid (And.intro hE hv)
  clear hf ht hA hD h N hE hv hu
  go_enter Try.func5, Try.ntmps5
  go_wp2_with fail
  refine (awake_any13 _).mono ?_
  rintro e w1 ⟨rfl, hb⟩
  have HB1 := Lib.hid hb
  clear hb
  go_wp2_with fail
  go_loop [31] (fun vi => ∃ k : Nat, k ≤ n ∧ vi = .int .i64 k) (fun vi => n - (intOf vi).toNat)
  case atStart => exact ⟨0, Nat.zero_le _, rfl⟩
  case round =>
    obtain ⟨k, hk, rfl⟩ := hrel
    by_cases hlt : k < n
    · obtain ⟨b, off, rfl, hr⟩ := HA.out (by omega)
      have c1 := kcell HB1.out (hr k hlt)
      have c2 := HH.out k hlt
      obtain ⟨x, hx⟩ : ∃ x, x = f k := ⟨_, rfl⟩
      rw [← hx] at c1 c2
      clear hr hx
      go_wp2_with fail
      go_round
      case rel => exact ⟨k + 1, by omega, by go_num⟩
      case measure => simp [intOf]; omega
    · have hke : k = n := by omega
      subst hke
      clear hk hlt
      go_wp2_with fail
      refine (H7.out w1).mono ?_
      rintro e w2 ⟨p1, rfl, hb, _, hi⟩
      have HB2 := Lib.hid (up2 HB1.out (up2 (boxed _ _) hb))
      have HP1 := Lib.hid (ints_arg0 hi)
      clear hb hi HB1 H7
      go_wp2_with fail
      refine (same_yes _ (l1 price) (some ⟨p1, 0, none⟩) (some ⟨w2.heap.size, 0, none⟩) 1 1 1 _ (by decide) (HP1.out.up13 (boxed _ _)) (lit1 w2 2 price) HSv.out).mono ?_
      rintro e w3 ⟨rfl, hb⟩
      have HB3 := Lib.hid (up2 HB2.out (up2 (boxed _ _) hb))
      clear hb HB2 HP1
      go_wp2_with fail
      refine (HS.out _ HB3.out).mono ?_
      rintro e w4 ⟨rfl, hb⟩
      have HB4 := Lib.hid (up2 HB3.out hb)
      clear hb HB3 HS
      go_wp2_with fail
      refine (H1.out _ HB4.out).mono ?_
      rintro e w5 ⟨p5, rfl, hb, _, hi⟩
      have HB5 := Lib.hid (up2 HB4.out hb)
      have HP5 := Lib.hid (ints_arg0 hi)
      clear hb hi HB4 H1
      go_wp2_with fail
      refine (H2.out _ HB5.out).mono ?_
      rintro e w6 ⟨rfl, hb⟩
      have HB6 := Lib.hid (up2 HB5.out hb)
      have HP5 := Lib.hid (HP5.out.up13 hb)
      clear hb HB5 H2
      go_wp2_with fail
      refine (H3.out _ HB6.out).mono ?_
      rintro e w7 ⟨hl, _⟩
      rw [← HEv.out.1, ← HEv.out.2] at hl
      by_cases q : E = 0
      · obtain ⟨p7, rfl, hb, _, hi⟩ := listed_ok hl q
        have HB7 := Lib.hid (up2 HB6.out hb)
        have HP5 := Lib.hid (HP5.out.up13 hb)
        have HP7 := Lib.hid (ints_arg0 hi)
        have HA7 := Lib.hid (HA.out.up13 HB7.out)
        have HVv := Lib.hid (HV3.out q)
        clear hb hi hl HB6 H3 HEv q HV3
        go_wp2_with fail
        refine (same_yes _ f (some ⟨p5, 0, none⟩) a k k capa _ (by omega) HP5.out HA7.out HV1.out).mono ?_
        rintro e w8 ⟨rfl, hb⟩
        have HB8 := Lib.hid (up2 HB7.out hb)
        have HP8 := Lib.hid (HP7.out.up13 hb)
        have HA8 := Lib.hid (HA7.out.up13 hb)
        clear hb HB7 HP7 HA7 HP5
        go_wp2_with fail
        refine (same_yes _ f (some ⟨p7, 0, none⟩) a k k capa _ (by omega) HP8.out HA8.out HVv.out).mono ?_
        rintro e w9 ⟨rfl, hb⟩
        have HB9 := Lib.hid (up2 HB8.out hb)
        clear hb
        go_wp2_with fail
        go_ret
        exact ⟨rfl, HB9.out⟩
      · obtain ⟨rfl, hb⟩ := listed_err hl q
        have HB7 := Lib.hid (up2 HB6.out hb)
        have HP5 := Lib.hid (HP5.out.up13 hb)
        have HA7 := Lib.hid (HA.out.up13 HB7.out)
        have z : (E != 0) = true := by simp [q]
        clear hb hl HB6 H3 HEv q HV3
        go_wp2_with fail
        refine (same_yes _ f (some ⟨p5, 0, none⟩) a k k capa _ (by omega) HP5.out HA7.out HV1.out).mono ?_
        rintro e w8 ⟨rfl, hb⟩
        have HB8 := Lib.hid (up2 HB7.out hb)
        clear hb HB7 HA7 HP5
        go_wp2_with fail
        go_ret
        exact ⟨rfl, HB8.out⟩

theorem none_law13 (price : Int) (f p : Nat → Int) (a d : Option Addr) (n m capa capd : Nat) (w : World) (ht : Am price) (hf : Amounts f) (hA : Arg w a n f) (hD : Arg w d m p) :
    Calls Try.prog 5 #[.slice a n capa, .slice d m capd, .int .i64 price] w fun e w' => e = .returned (.bool true) ∧ Below w.heap.size w w' := by
  by_cases hl : 64 < n ∨ 70 < m
  · exact none_long price a d n m capa capd w hl
  · by_cases h : ∀ t, t < n → 1 ≤ f t
    · by_cases hx : tellE (sumN f n) = 3 ∨ n = 0
      · by_cases hp : price < 0
        · exact none_out_neg price f a d n m capa capd w ht hf (by omega) (by omega) hA h hp hx
        · exact none_out_pos price f a d n m capa capd w ht hf (by omega) (by omega) hA h hp hx
      · have hs : Am (sumN f n) := by
          rcases tellE_or (sumN f n) with q | q
          · exact q.2.2
          · exact absurd (.inl q.1) hx
        have N := nn_of (p := p) (m := m) (show 0 < n by omega) (by omega) h hs
        by_cases hp : price < 0
        · exact none_main_neg price f p a d n m capa capd w ht hf (by omega) (by omega) hA hD h hp _ N (by omega)
        · exact none_main_pos price f p a d n m capa capd w ht hf (by omega) (by omega) hA hD h hp _ N (by omega)
    · exact none_low price f a d n m capa capd w (by omega) (by omega) hA h
end Go.Proofs.Ytbcdfkcgcaifjaa
