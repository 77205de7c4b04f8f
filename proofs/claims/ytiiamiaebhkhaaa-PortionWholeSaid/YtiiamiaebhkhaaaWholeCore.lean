/- The law PortionWhole, over a list of amounts. -/
import Derived.Test.YtiiamiaebhkhaaaPoFacts
namespace Go.Proofs.Ytiiamiaebhkhaaa
open Go.RowKit

theorem law_long4 (total : Int) (a : Option Addr) (n cap : Nat) (w : World) (h : 70 < n) :
    Calls Try.prog 4 #[.int .i64 total, .slice a n cap] w fun e w' => e = .returned (.bool true) ∧ Below w.heap.size w w' := by
  have hz : (70 : Int) < (n : Int) := by omega
  go_enter Try.func4, Try.ntmps4
  go_wp2_with fail
  refine (awake2 _).mono ?_
  rintro e w1 ⟨rfl, hb⟩
  go_wp2_with fail
  go_ret
  exact ⟨rfl, hb⟩

set_option maxRecDepth 100000 in
set_option maxHeartbeats 2000000 in
theorem whole_any (total : Int) (f : Nat → Int) (a : Option Addr) (n cap : Nat) (w : World) (hf : Amounts f) (ht : Am total) (hn : n ≤ 70) (hA : Arg w a n f) :
    Calls Try.prog 4 #[.int .i64 total, .slice a n cap] w fun e w' => e = .returned (.bool true) ∧ Below w.heap.size w w' := by
  obtain ⟨t1, t2⟩ := ht
  have HA := Lib.hid hA
  have hz : ¬ (70 : Int) < (n : Int) := by omega
  have HF := Lib.hid hf
  clear hA hf
  go_enter Try.func4, Try.ntmps4
  go_wp2_with fail
  refine (awake2 _).mono ?_
  rintro e w1 ⟨rfl, hb⟩
  have HB1 := Lib.hid hb
  have HA1 : Hid (Arg w1 a n f) := fun q => by obtain ⟨b, off, e, r⟩ := HA.out q; exact ⟨b, off, e, r.below HB1.out⟩
  clear hb
  go_wp2_with fail
  refine (out_any total f a n cap w1 HF.out t1 t2 HA1.out).mono ?_
  rintro e w2 ⟨⟨hb, q⟩, hs⟩
  have HB2 := Lib.hid (up2 HB1.out hb)
  clear HB1 HA1 hb
  rcases q with ⟨he, rfl⟩ | ⟨he, p, rfl, hp, hi⟩
  · obtain ⟨er, her⟩ : ∃ er, er = outE total f n := ⟨_, rfl⟩
    rw [← her] at he ⊢
    have hez : (er != 0) = true := by simp [he]
    clear her he hs
    go_wp2_with fail
    go_ret
    exact ⟨rfl, HB2.out⟩
  · have HI := Lib.hid hi
    have HS := Lib.hid (hs he)
    have HE := Lib.hid he
    have HFs := Lib.hid (fun k (hk : k < n) => out_facts t1 t2 he hk)
    have hsum := sum_some (upTo (outV total f n) n) (fun k => by
      unfold upTo
      by_cases q : k < n
      · rw [if_pos q]; exact (out_facts t1 t2 he q).2.2.2
      · rw [if_neg q]; omega) p 0 n n w2 (by omega) (fun k hk => by rw [Nat.zero_add, upTo, if_pos hk]; exact (hi k hk).1)
    rw [sumTo_eq, sumN_congr (g := outV total f n) (fun k hk => by rw [upTo, if_pos hk]), out_sum he (hs he), (tell_in t1 t2).1, (tell_in t1 t2).2] at hsum
    have HSum := Lib.hid hsum
    clear hi hs he hsum hp
    obtain ⟨v, hv⟩ : ∃ v, v = outV total f n := ⟨_, rfl⟩
    rw [← hv] at HI HFs
    clear hv HS HE
    go_wp2_with fail
    refine HSum.out.mono ?_
    rintro e w3 ⟨rfl, hb⟩
    have HB3 := Lib.hid (up2 HB2.out hb)
    have HI3 := Lib.hid (ints_up HI.out hb)
    have HA3 : Hid (Arg w3 a n f) := fun q => by obtain ⟨b, off, e, r⟩ := HA.out q; exact ⟨b, off, e, r.below HB3.out⟩
    clear hb HB2 HI HSum HA
    go_wp2_with fail
    go_loop [48] (fun vi => ∃ k : Nat, k ≤ n ∧ vi = .int .i64 k) (fun vi => n - (intOf vi).toNat)
    case atStart => exact ⟨0, Nat.zero_le _, rfl⟩
    case round =>
      obtain ⟨k, hk, rfl⟩ := hrel
      by_cases hlt : k < n
      · obtain ⟨b, off, rfl, hr⟩ := HA3.out (by omega)
        have c1 := (HI3.out k hlt).1
        have c2 := hr k hlt
        obtain ⟨f1, f2, f3, _⟩ := HFs.out k hlt
        clear hr
        obtain ⟨x, hx⟩ : ∃ x, x = v k := ⟨_, rfl⟩
        obtain ⟨y, hy⟩ : ∃ y, y = f k := ⟨_, rfl⟩
        rw [← hx] at f1 f2 f3 c1
        rw [← hy] at f3 c2
        clear hx hy
        rcases Int.lt_trichotomy total 0 with s | s | s
        · have g1 : ¬ 0 ≤ total := by omega
          have g2 : total ≤ 0 := by omega
          have g3 : x ≤ 0 := f2 g2
          have g4 : ¬ 0 < x := by omega
          by_cases q : y = 0
          · have q1 : x = 0 := f3 q
            subst q q1
            clear f1 f2 f3
            go_wp2_with fail
            go_round
            case rel => exact ⟨k + 1, by omega, by go_num⟩
            case measure => simp [intOf]; omega
          · have q1 : (y == 0) = false := by simp [q]
            clear f1 f2 f3
            go_wp2_with fail
            go_round
            case rel => exact ⟨k + 1, by omega, by go_num⟩
            case measure => simp [intOf]; omega
        · subst s
          have g3 : x = 0 := by have := f1 (by omega); have := f2 (by omega); omega
          subst g3
          by_cases q : y = 0
          · subst q
            clear f1 f2 f3
            go_wp2_with fail
            go_round
            case rel => exact ⟨k + 1, by omega, by go_num⟩
            case measure => simp [intOf]; omega
          · have q1 : (y == 0) = false := by simp [q]
            clear f1 f2 f3
            go_wp2_with fail
            go_round
            case rel => exact ⟨k + 1, by omega, by go_num⟩
            case measure => simp [intOf]; omega
        · have g1 : 0 ≤ total := by omega
          have g2 : ¬ total ≤ 0 := by omega
          have g3 : 0 ≤ x := f1 g1
          have g4 : ¬ x < 0 := by omega
          by_cases q : y = 0
          · have q1 : x = 0 := f3 q
            subst q q1
            clear f1 f2 f3
            go_wp2_with fail
            go_round
            case rel => exact ⟨k + 1, by omega, by go_num⟩
            case measure => simp [intOf]; omega
          · have q1 : (y == 0) = false := by simp [q]
            clear f1 f2 f3
            go_wp2_with fail
            go_round
            case rel => exact ⟨k + 1, by omega, by go_num⟩
            case measure => simp [intOf]; omega
      · have hke : k = n := by omega
        subst hke
        go_wp2_with fail
        go_ret
        exact ⟨rfl, HB3.out⟩
end Go.Proofs.Ytiiamiaebhkhaaa
