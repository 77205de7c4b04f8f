/- sure, ifSure, byChance, isPoints, check. -/
import Derived.Test.YthogokflobnfpaaCoMem
namespace Go.Proofs.Ythogokflobnfpaa
open Go.RowKit

set_option maxHeartbeats 1000000 in
theorem sure_any (x : Mb) (b : Int) (w : World) (h0 : 0 ≤ b) (h1 : b ≤ 10000) : Calls Try.prog 24 #[x.val, .int .i64 b] w fun e w' => e = .returned (.bool (surP b x)) ∧ Below w.heap.size w w' := by
  obtain ⟨am, ch⟩ := x
  unfold Mb.val surP
  by_cases q : 0 < am
  · simp only [q, if_true]
    go_enter Try.func24, Try.ntmps24
    go_wp2_with fail
    go_ret
    exact ⟨rfl, boxed _ _⟩
  · simp only [q, if_false]
    have hw : IntKind.i64.wrap (10000 - b) = 10000 - b := IntWalk.i64_in _ (by omega)
    go_enter Try.func24, Try.ntmps24
    go_wp2_with fail
    go_ret
    exact ⟨rfl, boxed _ _⟩

set_option maxHeartbeats 1000000 in
theorem ifSure_any (x : Mb) (b : Int) (w : World) (h0 : 0 ≤ b) (h1 : b ≤ 10000) : Calls Try.prog 13 #[x.val, .int .i64 b] w fun e w' => e = .returned (.int .i64 (ptsS b x)) ∧ Below w.heap.size w w' := by
  have HS := Lib.hid (fun W => sure_any x b W h0 h1)
  obtain ⟨am, ch⟩ := x
  unfold Mb.val at HS ⊢
  unfold ptsS
  cases q : surP b ⟨am, ch⟩ with
  | true =>
    rw [q] at HS
    rw [if_pos rfl]
    clear q
    go_enter Try.func13, Try.ntmps13
    go_wp2_with fail
    refine (HS.out _).mono ?_
    rintro e w1 ⟨rfl, hb⟩
    have HB := Lib.hid (up2 (boxed _ _) hb)
    clear hb
    go_wp2_with fail
    go_ret
    exact ⟨rfl, HB.out⟩
  | false =>
    rw [q] at HS
    rw [if_neg (by decide)]
    clear q
    go_enter Try.func13, Try.ntmps13
    go_wp2_with fail
    refine (HS.out _).mono ?_
    rintro e w1 ⟨rfl, hb⟩
    have HB := Lib.hid (up2 (boxed _ _) hb)
    clear hb
    go_wp2_with fail
    go_ret
    exact ⟨rfl, HB.out⟩

set_option maxHeartbeats 1000000 in
theorem byChance_any (x : Mb) (b : Int) (w : World) (hx : Am x.ch) : Calls Try.prog 18 #[x.val, .int .i64 b] w fun e w' => e = .returned (.int .i64 x.ch) ∧ Below w.heap.size w w' := by
  obtain ⟨am, ch⟩ := x
  unfold Mb.val
  have hw : IntKind.i64.wrap ch = ch := IntWalk.i64_in _ hx
  clear hx
  go_enter Try.func18, Try.ntmps18
  go_wp2_with fail
  go_ret
  exact ⟨rfl, boxed _ _⟩

def ptB (n : Int) : Bool := decide (0 ≤ n) && decide (n ≤ 10000)
set_option maxHeartbeats 1000000 in
theorem isPoints_any (n : Int) (w : World) : Calls Try.prog 32 #[.int .i64 n] w fun e w' => e = .returned (.bool (ptB n)) ∧ w = w' := by
  unfold ptB
  by_cases h : 0 ≤ n
  · rw [decide_eq_true h, Bool.true_and]
    go_enter Try.func32, Try.ntmps32
    go_wp2
    go_ret
    exact ⟨rfl, rfl⟩
  · rw [decide_eq_false h, Bool.false_and]
    go_enter Try.func32, Try.ntmps32
    go_wp2
    go_ret
    exact ⟨rfl, rfl⟩

set_option maxRecDepth 100000 in
set_option maxHeartbeats 4000000 in
theorem cock_any (f b : Int) (a : Option Addr) (cap : Nat) (l : List Mb) (w : World) (hl : MbA w a l) : Calls Try.prog 21 #[.int .i64 f, .slice a l.length cap, .int .i64 b] w fun e w' => e = .returned (.int .i64 (wrE f l b)) ∧ Below w.heap.size w w' := by
  obtain ⟨n, hn⟩ : ∃ n, n = l.length := ⟨_, rfl⟩
  have hE : wrE f l b = if 32 < n then 4 else if f < 0 ∨ b < 0 ∨ 10000 < b then 1 else if l.all mbB = true then 0 else 1 := by rw [hn]; rfl
  rw [hE, ← hn]
  clear hE
  by_cases q1 : 32 < n
  · rw [if_pos q1]
    have q1' : ((32 : Int) < (n : Int)) := by omega
    clear hl hn
    go_enter Try.func21, Try.ntmps21
    go_wp2_with fail
    go_ret
    exact ⟨rfl, Below.refl _ _⟩
  · rw [if_neg q1]
    have hlen : n ≤ 32 := by omega
    have HP := Lib.hid (fun m W => isPoints_any m W)
    by_cases q2 : f < 0
    · rw [if_pos (.inl q2)]
      clear hl hn q1
      go_enter Try.func21, Try.ntmps21
      go_wp2_with fail
      go_ret
      exact ⟨rfl, Below.refl _ _⟩
    · by_cases q3 : b < 0 ∨ 10000 < b
      · rw [if_pos (.inr q3)]
        have hp : ptB b = false := by
          unfold ptB
          rcases q3 with q3 | q3
          · rw [decide_eq_false (by omega), Bool.false_and]
          · rw [decide_eq_false (p := b ≤ 10000) (by omega), Bool.and_false]
        have h0 := isPoints_any b
        rw [hp] at h0
        have H0 := Lib.hid h0
        clear hl hn q1 q3 hp h0
        go_enter Try.func21, Try.ntmps21
        go_wp2_with fail
        refine (H0.out _).mono ?_
        rintro e w1 ⟨rfl, rfl⟩
        go_wp2_with fail
        go_ret
        exact ⟨rfl, Below.refl _ _⟩
      · rw [if_neg (by omega)]
        have hp : ptB b = true := by
          unfold ptB
          rw [decide_eq_true (by omega), decide_eq_true (p := b ≤ 10000) (by omega)]; rfl
        have h0 := isPoints_any b
        rw [hp] at h0
        have H0 := Lib.hid h0
        obtain ⟨E, hE⟩ : ∃ E : Int, E = if l.all mbB = true then 0 else 1 := ⟨_, rfl⟩
        rw [← hE]
        have HE := Lib.hid hE
        have HL := Lib.hid hl
        have HN := Lib.hid hn
        clear hl hn q1 q3 hp h0 hE
        go_enter Try.func21, Try.ntmps21
        go_wp2_with fail
        refine (H0.out _).mono ?_
        rintro e w1 ⟨rfl, rfl⟩
        go_wp2_with fail
        go_loopw [21] (fun i wr => ∃ k : Nat, k ≤ n ∧ i = .int .i64 (k : Int) ∧ (∀ t x, t < k → l[t]? = some x → mbB x = true) ∧ Below w.heap.size w wr) (fun i _ => n - (intOf i).toNat)
        case atStart => exact ⟨0, Nat.zero_le _, rfl, fun t x ht _ => by omega, Below.refl _ _⟩
        case round =>
          obtain ⟨k, hk, rfl, hall, hb⟩ := hrel
          have HA := Lib.hid hall
          have HB := Lib.hid hb
          clear hall hb
          by_cases hlt : k < n
          · obtain ⟨x, hx⟩ : ∃ x, l[k]? = some x := ⟨l[k]'(by rw [← HN.out]; exact hlt), List.getElem?_eq_getElem _⟩
            obtain ⟨bb, o, ha, c0, c1⟩ := mb_at (HL.out.up HB.out) hx
            subst ha
            have HX := Lib.hid hx
            clear hx
            go_wp2_with fail
            refine (HP.out x.ch _).mono ?_
            rintro e w1 ⟨rfl, rfl⟩
            have HB1 := Lib.hid (HB.out.alloc HB.out.size (.cells #[.int .i64 x.am, .int .i64 x.ch] 26))
            cases q : ptB x.ch with
            | true =>
              have HQ : Hid (mbB x = true) := q
              clear q
              go_wp2_with fail
              go_roundw
              case rel =>
                refine ⟨k + 1, by omega, by go_num, fun t y ht hy => ?_, HB1.out⟩
                by_cases z : t = k
                · subst z; rw [HX.out] at hy; obtain rfl := Option.some.inj hy; exact HQ.out
                · exact HA.out t y (by omega) hy
              case measure => simp [intOf]; omega
            | false =>
              have hno : ¬ l.all mbB = true := fun z => by
                have := List.all_eq_true.1 z x (List.mem_of_getElem? HX.out)
                rw [show mbB x = false from q] at this; cases this
              have hE : E = 1 := by rw [HE.out, if_neg hno]
              subst hE
              clear q hno
              go_wp2_with fail
              go_ret
              exact ⟨rfl, HB1.out⟩
          · have hyes : l.all mbB = true := List.all_eq_true.2 fun x hx => by
              obtain ⟨i, hi⟩ := List.getElem?_of_mem hx
              have := (List.getElem?_eq_some_iff.1 hi).1
              exact HA.out i x (by rw [← HN.out] at this; omega) hi
            have hE : E = 0 := by rw [HE.out, if_pos hyes]
            subst hE
            clear hyes
            go_wp2_with fail
            go_ret
            exact ⟨rfl, HB.out⟩
end Go.Proofs.Ythogokflobnfpaa
