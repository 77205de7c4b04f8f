/- AllotWhole. -/
import Derived.Test.YtbcdfkcgcaifjaaAlF
namespace Go.Proofs.Ytbcdfkcgcaifjaa
open Go.RowKit

/-- a list whose sum is told, or an error without one -/
structure Gt (w : World) (n : Nat) (price E : Int) (a : Option Addr) (l c : Nat) : Prop where
  no : E ≠ 0 → l = 0
  yes : E = 0 → l = n ∧ ∀ W, Below w.heap.size w W → Calls Try.prog 17 #[.slice a l c] W fun e w' => e = .returned (.tuple #[.int .i64 price, .int .i64 0]) ∧ Below W.heap.size W w'
theorem Gt.up {w W : World} {n : Nat} {price E : Int} {a : Option Addr} {l c : Nat} (h : Gt w n price E a l c) (hb : Below w.heap.size w W) : Gt W n price E a l c :=
  ⟨h.no, fun q => ⟨(h.yes q).1, fun W' hW => (h.yes q).2 W' (up2 hb hW)⟩⟩
def GotPost (w : World) (n : Nat) (price E : Int) (v : Nat → Int) (e : Ending) (w' : World) : Prop :=
  ∃ a l c, e = .returned (.tuple #[.slice a l c, .int .i64 E]) ∧ Below w.heap.size w w' ∧ Gt w' n price E a l c ∧ (E = 0 → Arg w' a n v)
theorem got_of {w w' : World} {n : Nat} {price E : Int} {v : Nat → Int} {e : Ending} (h : Listed w E n v e w') (hn : n ≤ 1000) (hp : Am price) (hv : E = 0 → (∀ t, t < n → Am (v t)) ∧ sumN v n = price) : GotPost w n price E v e w' := by
  obtain ⟨hb, ⟨q, he⟩ | ⟨q, p, he, _, hi⟩⟩ := h
  · exact ⟨none, 0, 0, he, hb, ⟨fun _ => rfl, fun z => absurd z q⟩, fun z => absurd z q⟩
  · refine ⟨some ⟨p, 0, none⟩, n, n, by rw [q]; exact he, hb, ⟨fun z => absurd q z, fun _ => ⟨rfl, fun W hW => ?_⟩⟩, fun _ => ints_arg0 hi⟩
    have hs := sum_arg (upTo v n) (some ⟨p, 0, none⟩) n n W (fun k => by
      unfold upTo
      by_cases z : k < n
      · rw [if_pos z]; exact (hv q).1 k z
      · rw [if_neg z]; omega) hn (fun _ => ⟨p, 0, rfl, fun k hk => by rw [Nat.zero_add, upTo, if_pos hk]; exact kcell hW (hi k hk).1⟩)
    rw [sumN_congr (g := v) (fun k hk => by rw [upTo, if_pos hk]), (hv q).2, (tellE_am hp).1, (tellE_am hp).2] at hs
    exact hs

theorem all_got (price : Int) (f : Nat → Int) (a : Option Addr) (n cap : Nat) (w : World) (hf : Amounts f) (ht : Am price) (hn : n ≤ 1000) (hA : Arg w a n f) :
    Calls Try.prog 8 #[.int .i64 price, .slice a n cap] w (GotPost w n price (allE price f n) (outV price f n)) :=
  (all_any price f a n cap w hf ht hA).mono fun e w' h => got_of h.1 hn ht fun q => by
    have q2 : outE price f n = 0 := by
      unfold allE at q
      by_cases z : price < 0
      · rw [if_pos z] at q; omega
      · rw [if_neg z] at q; exact q
    exact ⟨fun t ht2 => (out_facts ht.1 ht.2 q2 ht2).2.2.2, out_sum q2 (h.2 q)⟩
theorem some_got (price : Int) (f p : Nat → Int) (a c : Option Addr) (n m capa capc : Nat) (w : World) (hf : Amounts f) (ht : Am price) (hn : n ≤ 1000) (hm : m ≤ 1000) (hA : Arg w a n f) (hC : Arg w c m p) :
    Calls Try.prog 10 #[.int .i64 price, .slice a n capa, .slice c m capc] w (GotPost w n price (someE price f n p m) (someV price f n p m)) :=
  (some_any price f p a c n m capa capc w hf ht hn hm hA hC).mono fun _ _ h => got_of h.1 hn ht fun q => ⟨fun _ _ => some_am (some_ok q) hf, some_sum (some_ok q) (h.2 q)⟩
theorem again_got (total : Int) (d f : Nat → Int) (a c : Option Addr) (n k capa capc : Nat) (w : World) (hd : Amounts d) (hf : Amounts f) (ht : Am total) (hn : n ≤ 1000) (hk : k ≤ 1000) (hA : Arg w a n d) (hC : Arg w c k f) :
    Calls Try.prog 14 #[.int .i64 total, .slice a n capa, .slice c k capc] w (GotPost w k total (againE total d n f k) (againV total d n f k)) :=
  (again_any total d f a c n k capa capc w hd hf ht hn hA hC).mono fun _ _ h => got_of h.1 hk ht fun q => ⟨fun _ ht2 => again_am q ht2, again_sum q (h.2 q)⟩

theorem zeroBool (W : World) : (zeroValue 4).run Try.prog W = .ok (.bool false) W := by kernel_rfl
theorem idx1 (a b c d e f : Value) (W : World) : (Instr.index 35 (.agg #[a, b, c, d, e, f]) (.int .i64 0)).run Try.prog W = .ok (.agg #[a, b]) W := by kernel_rfl
theorem idx2 (a b c d e f : Value) (W : World) : (Instr.index 35 (.agg #[a, b, c, d, e, f]) (.int .i64 1)).run Try.prog W = .ok (.agg #[c, d]) W := by kernel_rfl
theorem idx3 (a b c d e f : Value) (W : World) : (Instr.index 35 (.agg #[a, b, c, d, e, f]) (.int .i64 2)).run Try.prog W = .ok (.agg #[e, f]) W := by kernel_rfl
/-- what the law holds of each that is not of some -/
def SomeHolds (n : Nat) (f p v : Nat → Int) (m : Nat) : Prop := risesB p n m = true ∧ ∀ t, t < n → 0 ≤ v t ∧ (inB p m (t : Int) = false → v t = f t)

set_option maxRecDepth 100000 in
set_option maxHeartbeats 2000000 in
theorem whole_long (price : Int) (a c d : Option Addr) (n k m capa capc capd : Nat) (w : World) (h : 70 < n ∨ 70 < k ∨ 70 < m) :
    Calls Try.prog 4 #[.int .i64 price, .slice a n capa, .slice c k capc, .slice d m capd] w fun e w' => e = .returned (.bool true) ∧ Below w.heap.size w w' := by
  have key : ((70 : Int) < (n : Int)) ∨ (¬ (70 : Int) < (n : Int) ∧ (70 : Int) < (k : Int)) ∨ (¬ (70 : Int) < (n : Int) ∧ ¬ (70 : Int) < (k : Int) ∧ (70 : Int) < (m : Int)) := by omega
  clear h
  rcases key with h1 | ⟨h1, h2⟩ | ⟨h1, h2, h3⟩
  all_goals
    go_enter Try.func4, Try.ntmps4
    go_wp2_with fail
    refine (awake_any13 _).mono ?_
    rintro e w1 ⟨rfl, hb⟩
    have HB := Lib.hid hb
    clear hb
    go_wp2_with fail
    go_ret
    exact ⟨rfl, HB.out⟩

set_option maxRecDepth 100000 in
set_option maxHeartbeats 8000000 in
theorem whole_short (price : Int) (f g p : Nat → Int) (a c d : Option Addr) (n k m capa capc capd : Nat) (w : World) (hf : Amounts f) (hg : Amounts g) (ht : Am price) (hn : n ≤ 70) (hk : k ≤ 70) (hm : m ≤ 70) (hA : Arg w a n f) (hC : Arg w c k g) (hD : Arg w d m p) :
    Calls Try.prog 4 #[.int .i64 price, .slice a n capa, .slice c k capc, .slice d m capd] w fun e w' => e = .returned (.bool true) ∧ Below w.heap.size w w' := by
  have z1 : ¬ (70 : Int) < (n : Int) := by omega
  have z2 : ¬ (70 : Int) < (k : Int) := by omega
  have z3 : ¬ (70 : Int) < (m : Int) := by omega
  have H1 := Lib.hid (fun (W : World) (q : Below w.heap.size w W) => all_got price f a n capa W hf ht (by omega) (hA.up13 q))
  have H2 := Lib.hid (fun (W : World) (q : Below w.heap.size w W) => some_got price f p a d n m capa capd W hf ht (by omega) (by omega) (hA.up13 q) (hD.up13 q))
  have H3 := Lib.hid (fun (W : World) (q : Below w.heap.size w W) => again_got price g f c a k n capc capa W hg hf ht (by omega) (by omega) (hC.up13 q) (hA.up13 q))
  have HS : Hid (someE price f n p m = 0 → SomeHolds n f p (someV price f n p m) m) := fun q => ⟨(some_ok q).rises, fun t ht => some_val (some_ok q) ht⟩
  have HA := Lib.hid (And.intro hA hD)
  obtain ⟨E1, hE1⟩ : ∃ E1, E1 = allE price f n := ⟨_, rfl⟩
  obtain ⟨E2, hE2⟩ : ∃ E2, E2 = someE price f n p m := ⟨_, rfl⟩
  obtain ⟨E3, hE3⟩ : ∃ E3, E3 = againE price g k f n := ⟨_, rfl⟩
  obtain ⟨v, hv⟩ : ∃ v, v = someV price f n p m := ⟨_, rfl⟩
  rw [← hE1] at H1
  rw [← hE2, ← hv] at H2 HS
  rw [← hE3] at H3
  clear hE1 hE2 hE3 hv hf hg ht hA hC hD
  go_enter Try.func4, Try.ntmps4
  go_wp2_with fail
  refine (awake_any13 _).mono ?_
  rintro e w1 ⟨rfl, hb⟩
  have HB1 := Lib.hid hb
  clear hb
  go_wp2_with fail
  refine (H1.out _ HB1.out).mono ?_
  rintro e w2 ⟨a1, n1, c1, rfl, hb, hG, _⟩
  have HB2 := Lib.hid (up2 HB1.out hb)
  have HG1 := Lib.hid hG
  clear hb hG H1 HB1
  go_wp2_with fail
  refine (H2.out _ HB2.out).mono ?_
  rintro e w3 ⟨a2, n2, c2, rfl, hb, hG, hV⟩
  have HB3 := Lib.hid (up2 HB2.out hb)
  have HG1 := Lib.hid (HG1.out.up hb)
  have HG2 := Lib.hid hG
  have HV2 := Lib.hid hV
  clear hb hG hV H2 HB2
  go_wp2_with fail
  refine (H3.out _ HB3.out).mono ?_
  rintro e w4 ⟨a3, n3, c3, rfl, hb, hG, _⟩
  have HB4 := Lib.hid (up2 HB3.out hb)
  have HG1 := Lib.hid (HG1.out.up hb)
  have HG2 := Lib.hid (HG2.out.up hb)
  have HV2 : Hid (E2 = 0 → Arg w4 a2 n v) := fun q => (HV2.out q).up13 hb
  have HG3 := Lib.hid hG
  clear hb hG H3 HB3
  go_wp2_with fail
  go_loopw [69] (fun vi wr => ∃ k : Nat, k ≤ 3 ∧ vi = .int .i64 k ∧ Below w4.heap.size w4 wr) (fun vi _ => 3 - (intOf vi).toNat)
  case atStart => exact ⟨0, by decide, rfl, Below.refl _ _⟩
  case round =>
    obtain ⟨j, hj, rfl, hb⟩ := hrel
    have HB := Lib.hid hb
    clear hb
    obtain rfl | rfl | rfl | rfl : j = 0 ∨ j = 1 ∨ j = 2 ∨ j = 3 := by omega
    · have ix := idx1
      by_cases q : E1 = 0
      · have HX := Lib.hid (HG1.out.yes q).2
        have hl := (HG1.out.yes q).1
        subst q
        rw [hl] at HX ⊢
        clear hl
        go_wp2_with fail
        have hf5 := Has.fresh wr 34 #[.slice a1 n c1, .int .i64 0]
        have hb5 := up2 HB.out (boxed wr (.cells #[.slice a1 n c1, .int .i64 0] 34))
        obtain ⟨W5, hW5⟩ : ∃ W5, W5 = wr.alloc (.cells #[.slice a1 n c1, .int .i64 0] 34) := ⟨_, rfl⟩
        rw [← hW5] at hf5 hb5 ⊢
        have d0 := hf5.cell 0
        have HB5 := Lib.hid hb5
        clear hf5 hb5 hW5
        refine (HX.out _ HB5.out).mono ?_
        rintro e w6 ⟨rfl, hb⟩
        have HB6 := Lib.hid (up2 HB5.out hb)
        have e0 := kcell hb d0
        clear d0 hb HX
        go_wp2_with fail
        go_roundw
        case rel => exact ⟨1, by decide, rfl, HB6.out⟩
        case measure => simp [intOf]
      · have hl := HG1.out.no q
        have z : (E1 != 0) = true := by simp [q]
        rw [hl]
        clear hl q
        go_wp2_with fail
        go_roundw
        case rel => exact ⟨1, by decide, rfl, up2 HB.out (boxed _ _)⟩
        case measure => simp [intOf]
    · have ix := idx2
      by_cases q : E2 = 0
      · have HX := Lib.hid (HG2.out.yes q).2
        have hl := (HG2.out.yes q).1
        subst q
        rw [hl] at HX ⊢
        clear hl
        go_wp2_with fail
        have hf5 := Has.fresh wr 34 #[.slice a2 n c2, .int .i64 0]
        have hb5 := up2 HB.out (boxed wr (.cells #[.slice a2 n c2, .int .i64 0] 34))
        obtain ⟨W5, hW5⟩ : ∃ W5, W5 = wr.alloc (.cells #[.slice a2 n c2, .int .i64 0] 34) := ⟨_, rfl⟩
        rw [← hW5] at hf5 hb5 ⊢
        have d0 := hf5.cell 0
        have HB5 := Lib.hid hb5
        clear hf5 hb5 hW5
        refine (HX.out _ HB5.out).mono ?_
        rintro e w6 ⟨rfl, hb⟩
        have HB6 := Lib.hid (up2 HB5.out hb)
        have e0 := kcell hb d0
        clear d0 hb HX
        go_wp2_with fail
        go_roundw
        case rel => exact ⟨2, by decide, rfl, HB6.out⟩
        case measure => simp [intOf]
      · have hl := HG2.out.no q
        have z : (E2 != 0) = true := by simp [q]
        rw [hl]
        clear hl q
        go_wp2_with fail
        go_roundw
        case rel => exact ⟨2, by decide, rfl, up2 HB.out (boxed _ _)⟩
        case measure => simp [intOf]
    · have ix := idx3
      by_cases q : E3 = 0
      · have HX := Lib.hid (HG3.out.yes q).2
        have hl := (HG3.out.yes q).1
        subst q
        rw [hl] at HX ⊢
        clear hl
        go_wp2_with fail
        have hf5 := Has.fresh wr 34 #[.slice a3 n c3, .int .i64 0]
        have hb5 := up2 HB.out (boxed wr (.cells #[.slice a3 n c3, .int .i64 0] 34))
        obtain ⟨W5, hW5⟩ : ∃ W5, W5 = wr.alloc (.cells #[.slice a3 n c3, .int .i64 0] 34) := ⟨_, rfl⟩
        rw [← hW5] at hf5 hb5 ⊢
        have d0 := hf5.cell 0
        have HB5 := Lib.hid hb5
        clear hf5 hb5 hW5
        refine (HX.out _ HB5.out).mono ?_
        rintro e w6 ⟨rfl, hb⟩
        have HB6 := Lib.hid (up2 HB5.out hb)
        have e0 := kcell hb d0
        clear d0 hb HX
        go_wp2_with fail
        go_roundw
        case rel => exact ⟨3, by decide, rfl, HB6.out⟩
        case measure => simp [intOf]
      · have hl := HG3.out.no q
        have z : (E3 != 0) = true := by simp [q]
        rw [hl]
        clear hl q
        go_wp2_with fail
        go_roundw
        case rel => exact ⟨3, by decide, rfl, up2 HB.out (boxed _ _)⟩
        case measure => simp [intOf]
    · have HBw : Hid (Below w.heap.size w wr) := up2 HB4.out HB.out
      have HVw : Hid (E2 = 0 → Arg wr a2 n v) := fun q => (HV2.out q).up13 HB.out
      have hmm := run_makeMap (P := Try.prog) 37
      obtain ⟨wo, hwo⟩ : ∃ wo, wo = wr := ⟨_, rfl⟩
      rw [← hwo] at HBw HVw ⊢
      clear hwo HB HB4 HV2 HG1 HG3
      by_cases q : E2 = 0
      · obtain ⟨hR, hV⟩ := HS.out q
        have HR := Lib.hid hR
        have HV := Lib.hid hV
        have HVA_o := Lib.hid (HVw.out q)
        have hl := (HG2.out.yes q).1
        subst q
        rw [hl]
        clear hl hR hV HS HG2 HVw
        go_wp2_with fail
        have hmi := Mi.fresh wo n (fun _ => .bool true)
        have hb0 := up2 HBw.out (boxed wo (.map #[] 0))
        have hbx := HBw.out.size
        have hva := HVA_o.out.up13 (boxed wo (.map #[] 0))
        obtain ⟨W0, hW0⟩ : ∃ W0, W0 = wo.alloc (.map #[] 0) := ⟨_, rfl⟩
        obtain ⟨b, hbd⟩ : ∃ b, b = wo.heap.size := ⟨_, rfl⟩
        rw [← hW0, ← hbd] at hmi
        rw [← hW0] at hb0 hva
        rw [← hbd] at hbx
        rw [← hW0, ← hbd]
        have HM0 := Lib.hid hmi
        have HB0 := Lib.hid hb0
        have HVA := Lib.hid hva
        have HBX := Lib.hid hbx
        clear hmi hb0 hbx hva hW0 hbd HBw hmm HVA_o wo
        go_loopw [106] (fun vi wr => ∃ j : Nat, j ≤ m ∧ vi = .int .i64 j ∧ Below w.heap.size w wr ∧ Arg wr a2 n v ∧ Mi wr b n (fun t => inB p j (t : Int) = true) (fun _ => .bool true)) (fun vi _ => m - (intOf vi).toNat)
        case atStart => exact ⟨0, Nat.zero_le _, rfl, HB0.out, HVA.out, HM0.out.same fun t _ => by simp [inB]⟩
        case round =>
          clear HB0 HM0 HVA
          obtain ⟨j, hj, rfl, hB, hB2, hM⟩ := hrel
          have HB := Lib.hid hB
          have HB2 := Lib.hid hB2
          have HM := Lib.hid hM
          clear hB hB2 hM
          by_cases hlt : j < m
          · obtain ⟨b1, off1, rfl, hr⟩ := HA.out.2 (by omega)
            have c1 := kcell HB.out (hr j hlt)
            have hin := rises_in HR.out hlt
            obtain ⟨x, hx⟩ : ∃ x : Nat, p j = (x : Int) := ⟨(p j).toNat, by omega⟩
            have hxn : x < n := by omega
            rw [hx] at c1
            obtain ⟨W1, hrun, hmi, hg, hsz⟩ := HM.out.put Try.underlying37 (by omega) hxn
            have HN : Hid (Below w.heap.size w W1) := HB.out.grown hg HB.out.size (fun j hj => by injection hj with hj; have := HBX.out; omega)
            have HN2 := Lib.hid (HB2.out.map HM.out hg)
            have HMi := Lib.hid hmi
            have HX := Lib.hid hx
            clear hr hmi hg hsz hin hx HM
            go_wp2_with fail
            go_roundw
            case rel => exact ⟨j + 1, by omega, by go_num, HN.out, HN2.out, HMi.out.same fun t _ => by
              simp only [inB, Bool.or_eq_true, beq_iff_eq, HX.out]; constructor <;> (rintro (q | q); exact .inl q; exact .inr (by omega))⟩
            case measure => simp [intOf]; omega
          · have hje : j = m := by omega
            subst hje
            obtain ⟨w9, hw9⟩ : ∃ w9, w9 = wr := ⟨_, rfl⟩
            rw [← hw9] at HB HB2 HM ⊢
            clear hw9 hlt hj
            go_wp2_with fail
            go_loop [115] (fun vi => ∃ i : Nat, i ≤ n ∧ vi = .int .i64 i) (fun vi => n - (intOf vi).toNat)
            case atStart => exact ⟨0, Nat.zero_le _, rfl⟩
            case round =>
              obtain ⟨i, hi, rfl⟩ := hrel
              by_cases hlt : i < n
              · obtain ⟨b1, off1, rfl, hr⟩ := HB2.out (by omega)
                obtain ⟨b2, off2, rfl, hr2⟩ := HA.out.1 (by omega)
                have c1 := hr i hlt
                have c2 := kcell HB.out (hr2 i hlt)
                obtain ⟨u, hrun, hu1, hu2⟩ := HM.out.look Try.underlying37 zeroBool (by omega) hlt
                obtain ⟨hv1, hv2⟩ := HV.out i hlt
                obtain ⟨x, hx⟩ : ∃ x, x = v i := ⟨_, rfl⟩
                obtain ⟨y, hy⟩ : ∃ y, y = f i := ⟨_, rfl⟩
                rw [← hx] at c1 hv1 hv2
                rw [← hy] at c2 hv2
                have hv1z : decide (x < 0) = false := decide_eq_false (by omega)
                clear hr hr2 hx hy hv1
                cases q : inB p j (i : Int) with
                | true =>
                  have e := hu1 q
                  subst e
                  clear hu1 hu2 hv2 q
                  go_wp2_with fail
                  go_round
                  case rel => exact ⟨i + 1, by omega, by go_num⟩
                  case measure => simp [intOf]; omega
                | false =>
                  have e := hu2 (by simp [q])
                  subst e
                  have e2 := hv2 q
                  subst e2
                  clear hu1 hu2 hv2 q
                  go_wp2_with fail
                  go_round
                  case rel => exact ⟨i + 1, by omega, by go_num⟩
                  case measure => simp [intOf]; omega
              · have hie : i = n := by omega
                subst hie
                clear hi hlt
                go_wp2_with fail
                go_ret
                exact ⟨rfl, HB.out⟩
      · have z : (E2 != 0) = true := by simp [q]
        clear q HS HG2 HVw hmm
        go_wp2_with fail
        go_ret
        exact ⟨rfl, HBw.out⟩

theorem whole_any13 (price : Int) (f g p : Nat → Int) (a c d : Option Addr) (n k m capa capc capd : Nat) (w : World) (hf : Amounts f) (hg : Amounts g) (ht : Am price) (hA : n ≤ 70 → Arg w a n f) (hC : k ≤ 70 → Arg w c k g) (hD : m ≤ 70 → Arg w d m p) :
    Calls Try.prog 4 #[.int .i64 price, .slice a n capa, .slice c k capc, .slice d m capd] w fun e w' => e = .returned (.bool true) ∧ Below w.heap.size w w' := by
  by_cases h : 70 < n ∨ 70 < k ∨ 70 < m
  · exact whole_long price a c d n k m capa capc capd w h
  · exact whole_short price f g p a c d n k m capa capc capd w hf hg ht (by omega) (by omega) (by omega) (hA (by omega)) (hC (by omega)) (hD (by omega))
end Go.Proofs.Ytbcdfkcgcaifjaa
