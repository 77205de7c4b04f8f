/- leave, All, arePlaces, pick. -/
import Derived.Test.YtbcdfkcgcaifjaaAlMath
namespace Go.Proofs.Ytbcdfkcgcaifjaa
open Go.RowKit

theorem Arg.up13 {w w' : World} {a : Option Addr} {n : Nat} {f : Nat → Int} (h : Arg w a n f) (hb : Below w.heap.size w w') : Arg w' a n f := fun q => by
  obtain ⟨b, off, e, r⟩ := h q; exact ⟨b, off, e, r.below hb⟩
theorem ints_arg0 {W : World} {p n : Nat} {v : Nat → Int} (h : Ints W p n v) : Arg W (some ⟨p, 0, none⟩) n v := fun _ => ⟨p, 0, rfl, fun k hk => by rw [Nat.zero_add]; exact (h k hk).1⟩

set_option maxHeartbeats 1000000 in
theorem leave_any (total : Int) (f : Nat → Int) (a : Option Addr) (n cap : Nat) (w : World) (hf : Amounts f) (ht : Am total) (hn : n ≤ 1000) (hA : Arg w a n f) :
    Calls Try.prog 24 #[.int .i64 total, .slice a n cap] w fun e w' => e = .returned (.tuple #[.int .i64 (leaveV total f n), .int .i64 (leaveE total f n)]) ∧ Below w.heap.size w w' := by
  have hs := sum_arg f a n cap w hf hn hA
  rcases tellE_or (sumN f n) with ⟨e1, e2, hb⟩ | ⟨e1, e2, _⟩
  · have hl : leaveE total f n = tellE (total - sumN f n) := by unfold leaveE; rw [if_pos e1]
    have hv : leaveV total f n = tellV (total - sumN f n) := by unfold leaveV; rw [if_pos e1]
    rw [e1, e2] at hs
    rw [hl, hv]
    obtain ⟨s, hsd⟩ : ∃ s, s = sumN f n := ⟨_, rfl⟩
    rw [← hsd] at hs hb ⊢
    have HL := Lib.hid (fun W => less_calls total s W ht.1 ht.2 hb.1 hb.2)
    obtain ⟨E, hE⟩ : ∃ E, E = tellE (total - s) := ⟨_, rfl⟩
    obtain ⟨V, hV⟩ : ∃ V, V = tellV (total - s) := ⟨_, rfl⟩
    rw [← hE, ← hV] at HL ⊢
    have HS := Lib.hid hs
    clear hs hE hV hsd hl hv e1 e2 hb hA hf ht
    go_enter Try.func24, Try.ntmps24
    go_wp2_with fail
    refine HS.out.mono ?_
    rintro e w1 ⟨rfl, hb1⟩
    have HB1 := Lib.hid hb1
    clear hb1
    go_wp2_with fail
    refine (HL.out _).mono ?_
    rintro e w2 ⟨rfl, hb2⟩
    have HB2 := Lib.hid (up2 HB1.out hb2)
    clear hb2
    go_wp2_with fail
    go_ret2
    exact ⟨rfl, HB2.out⟩
  · have hl : leaveE total f n = 3 := by unfold leaveE; rw [if_neg (by omega)]
    have hv : leaveV total f n = 0 := by unfold leaveV; rw [if_neg (by omega)]
    rw [e1, e2] at hs
    rw [hl, hv]
    have HS := Lib.hid hs
    clear hs hl hv e1 e2 hA hf ht
    go_enter Try.func24, Try.ntmps24
    go_wp2_with fail
    refine HS.out.mono ?_
    rintro e w1 ⟨rfl, hb1⟩
    have HB1 := Lib.hid hb1
    clear hb1
    go_wp2_with fail
    go_ret2
    exact ⟨rfl, HB1.out⟩

def AllPost (w : World) (price : Int) (f : Nat → Int) (n : Nat) (e : Ending) (w' : World) : Prop :=
  Listed w (allE price f n) n (outV price f n) e w' ∧ (allE price f n = 0 → Sorts n (restV (if 0 ≤ price then price else -price) f (sumN f n)))
set_option maxHeartbeats 1000000 in
theorem all_any (price : Int) (f : Nat → Int) (a : Option Addr) (n cap : Nat) (w : World) (hf : Amounts f) (ht : Am price) (hA : Arg w a n f) :
    Calls Try.prog 8 #[.int .i64 price, .slice a n cap] w (AllPost w price f n) := by
  by_cases q : price < 0
  · have hE : allE price f n = 1 := by unfold allE; rw [if_pos q]
    clear hA hf ht
    have HE := Lib.hid hE
    clear hE
    go_enter Try.func8, Try.ntmps8
    go_wp2_with fail
    go_ret2
    unfold AllPost
    rw [HE.out]
    exact ⟨⟨Below.refl _ _, .inl ⟨by decide, rfl⟩⟩, fun h => absurd h (by decide)⟩
  · have hE : allE price f n = outE price f n := by unfold allE; rw [if_neg q]
    have HO := Lib.hid (out_any price f a n cap w hf ht.1 ht.2 hA)
    have HE := Lib.hid hE
    clear hA hf ht hE
    go_enter Try.func8, Try.ntmps8
    go_wp2_with fail
    refine HO.out.mono ?_
    rintro e w1 ⟨⟨hb, h⟩, hs⟩
    have HB := Lib.hid hb
    have HS := Lib.hid hs
    clear hb hs
    rcases h with ⟨he, rfl⟩ | ⟨he, p, rfl, hp, hi⟩
    · have HX := Lib.hid he
      clear he
      obtain ⟨E, hEd⟩ : ∃ E, E = outE price f n := ⟨_, rfl⟩
      rw [← hEd] at HX HE ⊢
      clear hEd
      go_wp2_with fail
      go_ret2
      unfold AllPost
      rw [HE.out]
      exact ⟨⟨HB.out, .inl ⟨HX.out, rfl⟩⟩, fun h => absurd h HX.out⟩
    · have HX := Lib.hid (And.intro hp hi)
      have HY := Lib.hid he
      clear hp hi he
      go_wp2_with fail
      go_ret2
      unfold AllPost
      rw [HE.out]
      exact ⟨⟨HB.out, .inr ⟨HY.out, p, rfl, HX.out.1, HX.out.2⟩⟩, HS.out⟩

def PlPost (w : World) (p : Nat → Int) (m n : Nat) (e : Ending) (w' : World) : Prop := ∃ b, e = .returned (.bool b) ∧ (b = true ↔ 0 < m ∧ risesB p n m = true) ∧ w = w'
set_option maxHeartbeats 1000000 in
theorem places_any (p : Nat → Int) (a : Option Addr) (m cap n : Nat) (w : World) (hm : m ≤ 1000) (hA : Arg w a m p) :
    Calls Try.prog 21 #[.slice a m cap, .int .i64 (n : Int)] w (PlPost w p m n) := by
  have HA := Lib.hid hA
  clear hA
  go_enter Try.func21, Try.ntmps21
  go_wp2_with fail
  go_loop [5, 10] (fun va vi => ∃ k : Nat, k ≤ m ∧ vi = .int .i64 k ∧ va = .int .i64 (befV p k) ∧ Hid (risesB p n k = true)) (fun _ vi => m - (intOf vi).toNat)
  case atStart => exact ⟨0, Nat.zero_le _, rfl, rfl, rfl⟩
  case round =>
    obtain ⟨k, hk, rfl, rfl, HR⟩ := hrel
    by_cases hlt : k < m
    · obtain ⟨b, off, ha, hr⟩ := HA.out (by omega)
      subst ha
      have c1 := hr k hlt
      clear hr
      have HN : Hid (p k ≤ befV p k ∨ (n : Int) ≤ p k → risesB p n m = false) := fun q => by
        refine rises_no (k := k + 1) ?_ hlt
        simp only [risesB, HR.out, Bool.true_and, Bool.not_eq_false', Bool.or_eq_true, decide_eq_true_iff]
        exact q
      have HY : Hid (¬ (p k ≤ befV p k ∨ (n : Int) ≤ p k) → risesB p n (k + 1) = true) := fun q => by
        simp only [risesB, HR.out, Bool.true_and, Bool.not_eq_true', Bool.or_eq_false_iff, decide_eq_false_iff_not]
        omega
      obtain ⟨A, hAd⟩ : ∃ A, A = befV p k := ⟨_, rfl⟩
      obtain ⟨X, hX⟩ : ∃ X, X = p k := ⟨_, rfl⟩
      have HX : Hid (befV p (k + 1) = X) := by show p k = X; rw [hX]
      rw [← hX] at c1 HN HY
      rw [← hAd] at HN HY ⊢
      clear hAd hX
      by_cases q1 : X ≤ A
      · go_wp2_with fail
        go_ret
        exact ⟨_, rfl, by rw [HN.out (.inl q1)]; simp, rfl⟩
      · by_cases q2 : (n : Int) ≤ X
        · go_wp2_with fail
          go_ret
          exact ⟨_, rfl, by rw [HN.out (.inr q2)]; simp, rfl⟩
        · go_wp2_with fail
          go_round
          case rel => exact ⟨k + 1, by omega, by go_num, by rw [HX.out], HY.out (by omega)⟩
          case measure => simp [intOf]; omega
    · have hke : k = m := by omega
      subst hke
      clear hk hlt
      go_wp2_with fail
      go_ret
      exact ⟨_, rfl, by rw [HR.out]; simp, rfl⟩

theorem infoI64p : (Try.prog.info? 2).map (fun i => (i.zero, i.size, i.bytes)) = some (some (.int .i64 0), 1, 8) := by kernel_rfl
/-- a list, told as new memory -/
def NewI (w : World) (n : Nat) (v : Nat → Int) (e : Ending) (w' : World) : Prop := ∃ p, e = .returned (.slice (some ⟨p, 0, none⟩) n n) ∧ Below w.heap.size w w' ∧ w.heap.size ≤ p ∧ Ints w' p n v
set_option maxRecDepth 100000 in
set_option maxHeartbeats 2000000 in
theorem pick_any (f p : Nat → Int) (a c : Option Addr) (n m capa capc : Nat) (w : World) (hA : Arg w a n f) (hC : Arg w c m p) (hR : risesB p n m = true) (h0 : 0 < m) (hm : m ≤ 1000) :
    Calls Try.prog 25 #[.slice a n capa, .slice c m capc] w (NewI w m (picV f p)) := by
  obtain ⟨i0, hi, hz0, hz1, hz2⟩ := info_parts infoI64p
  have HA := Lib.hid hA
  have HC := Lib.hid hC
  have HR := Lib.hid hR
  clear hA hC hR
  go_enter Try.func25, Try.ntmps25
  go_wp2_with (at_make; refine wpList_make_full _ rfl _ _ 22 rfl w.heap.size 2 i0 (.int .i64 0) 1 Try.underlying22 hi hz0 hz1 .i64 .i64 _ _ m rfl rfl ?c1 ?c2 ?c3 ?c4 ?c5 ?_)
  case c1 => rfl
  case c2 => rfl
  case c3 => rw [hz2]; omega
  case c4 => unfold maxLen; omega
  case c5 => exact Nat.le_refl _
  intro w1 hown hgrow
  have hb1 : Below w.heap.size w w1 := (Below.refl _ _).grown hgrow (Nat.le_refl _) (fun k hk => by simp at hk)
  have hi1 := made_ints hown
  obtain ⟨g, hg⟩ : ∃ g, g = w.heap.size := ⟨_, rfl⟩
  rw [← hg] at hi1 ⊢
  have HI1 := Lib.hid hi1
  have HB1 := Lib.hid hb1
  have HG : Hid (w.heap.size ≤ g) := by show _ ≤ _; omega
  clear hown hgrow hi1 hb1 hg
  go_wp2_with fail
  go_loopw [13] (fun vi wr => ∃ k : Nat, k ≤ m ∧ vi = .int .i64 k ∧ Below w.heap.size w wr ∧ Ints wr g m (upTo (picV f p) k)) (fun vi _ => m - (intOf vi).toNat)
  case atStart => exact ⟨0, Nat.zero_le _, rfl, HB1.out, ints_same HI1.out fun t _ => by simp [upTo]⟩
  case round =>
    clear HB1 HI1
    obtain ⟨k, hk, rfl, hB, hI⟩ := hrel
    have HB := Lib.hid hB
    have HI := Lib.hid hI
    clear hB hI
    by_cases hlt : k < m
    · obtain ⟨b, off, rfl, hr⟩ := HC.out (by omega)
      have hin := rises_in HR.out hlt
      obtain ⟨j, hj⟩ : ∃ j : Nat, p k = (j : Int) := ⟨(p k).toNat, by omega⟩
      have hjn : j < n := by omega
      obtain ⟨b2, off2, rfl, hr2⟩ := HA.out (by omega)
      have c1 := kcell HB.out (hr k hlt)
      have c2 := kcell HB.out (hr2 j hjn)
      rw [hj] at c1
      have hpv : picV f p k = f j := by unfold picV; rw [hj]; rfl
      have HP := Lib.hid hpv
      have c3 := (HI.out k hlt).1
      have c4 := (HI.out k hlt).2
      obtain ⟨x, hx⟩ : ∃ x, x = f j := ⟨_, rfl⟩
      obtain ⟨y, hy⟩ : ∃ y, y = upTo (picV f p) k k := ⟨_, rfl⟩
      rw [← hx] at c2 HP
      rw [← hy] at c3
      clear hr hr2 hin hj hpv hx hy
      go_wp2_with fail
      go_roundw
      case rel => exact ⟨k + 1, by omega, by go_num, HB.out.setCell HG.out _, ints_same (ints_set HI.out hlt x) fun t _ => by rw [upTo_step, HP.out]⟩
      case measure => simp [intOf]; omega
    · have hke : k = m := by omega
      subst hke
      go_wp2_with fail
      go_ret
      exact ⟨g, rfl, HB.out, HG.out, ints_same HI.out fun t ht => by rw [upTo, if_pos ht]⟩
end Go.Proofs.Ytbcdfkcgcaifjaa
