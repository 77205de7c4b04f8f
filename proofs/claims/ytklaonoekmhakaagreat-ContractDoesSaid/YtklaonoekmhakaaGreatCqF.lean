/- awake. -/
import Derived.Test.YtklaonoekmhakaaGreatCoD
import Derived.Test.YtklaonoekmhakaaGreatAlJ
import Derived.Test.YtklaonoekmhakaaGreatBqA
import Derived.Test.YtklaonoekmhakaaGreatDvG
namespace Go.Proofs.YtklaonoekmhakaaGreat
open Go.RowKit

def aM : List Mb := [⟨50, 6000⟩, ⟨-20, 3000⟩]
def aN : List Mb := [⟨-1, 1⟩]
end Go.Proofs.YtklaonoekmhakaaGreat

namespace Go.Proofs.YtklaonoekmhakaaGreat
open Go.RowKit

set_option maxRecDepth 100000 in
set_option maxHeartbeats 8000000 in
theorem qwrong_any (f b : Int) (a : Option Addr) (n cap : Nat) (l : List Mb) (w : World) (hn : l.length = n) (hl : MbA w a l) :
    Calls Tryz.prog 107 #[.int .i64 f, .slice a n cap, .int .i64 b] w fun e w' => e = .returned (.int .i64 (wrE f l b)) ∧ w = w' := by
  have hE : wrE f l b = if 32 < n then 4 else if f < 0 ∨ b < 0 ∨ 10000 < b then 1 else if l.all mbB = true then 0 else 1 := by rw [← hn]; rfl
  rw [hE]
  clear hE
  by_cases q1 : 32 < n
  · rw [if_pos q1]
    have q1' : ((32 : Int) < (n : Int)) := by omega
    clear hl hn q1
    go_enter Tryz.func107, Tryz.ntmps107
    go_wp2_with fail
    go_ret
    exact ⟨rfl, rfl⟩
  · rw [if_neg q1]
    have hlen : n ≤ 32 := by omega
    by_cases q2 : f < 0 ∨ b < 0 ∨ 10000 < b
    · rw [if_pos q2]
      have key : decide (f < 0) = true ∨ (decide (f < 0) = false ∧ decide (b < 0) = true) ∨ (decide (f < 0) = false ∧ decide (b < 0) = false ∧ decide (10000 < b) = true) := by
        simp only [decide_eq_true_eq, decide_eq_false_iff_not]; omega
      clear hl hn q1 q2
      rcases key with k1 | ⟨k1, k2⟩ | ⟨k1, k2, k3⟩
      all_goals
        go_enter Tryz.func107, Tryz.ntmps107
        go_wp2_with fail
        go_ret
        exact ⟨rfl, rfl⟩
    · rw [if_neg q2]
      have k1 : decide (f < 0) = false := decide_eq_false (by omega)
      have k2 : decide (b < 0) = false := decide_eq_false (by omega)
      have k3 : decide (10000 < b) = false := decide_eq_false (by omega)
      obtain ⟨E, hE⟩ : ∃ E : Int, E = if l.all mbB = true then 0 else 1 := ⟨_, rfl⟩
      rw [← hE]
      have HE := Lib.hid hE
      have HL := Lib.hid hl
      have HN := Lib.hid hn
      clear hl hn q1 q2 hE
      go_enter Tryz.func107, Tryz.ntmps107
      go_wp2_with fail
      go_loop [7] (fun i => ∃ k : Nat, k ≤ n ∧ i = .int .i64 (k : Int) ∧ Hid (∀ t x, t < k → l[t]? = some x → mbB x = true)) (fun i => n - (intOf i).toNat)
      case atStart => exact ⟨0, Nat.zero_le _, rfl, Lib.hid (fun t x ht _ => by omega)⟩
      case round =>
        obtain ⟨k, hk, rfl, HA⟩ := hrel
        have hk0 : (0 : Int) ≤ (k : Int) := by omega
        by_cases hlt : k < n
        · obtain ⟨x, hx⟩ : ∃ x, l[k]? = some x := ⟨l[k]'(by rw [HN.out]; exact hlt), List.getElem?_eq_getElem _⟩
          obtain ⟨bb, o, ha, c0, c1⟩ := mb_at HL.out hx
          subst ha
          have HX := Lib.hid hx
          have hk1 : (k : Int) < (n : Int) := by omega
          have e1 : IntKind.i64.wrap ((k : Int) + 1) = (k : Int) + 1 := IntWalk.i64_in _ (by omega)
          clear hx
          cases q : mbB x with
          | true =>
            have hm : 0 ≤ x.ch ∧ x.ch ≤ 10000 := by simpa [mbB] using q
            have t1 : decide (x.ch < 0) = false := decide_eq_false (by omega)
            have t2 : decide (10000 < x.ch) = false := decide_eq_false (by omega)
            have HQ := Lib.hid q
            clear q hm
            go_wp2_with fail
            go_round
            case rel =>
              refine ⟨k + 1, by omega, by go_num, Lib.hid (fun t y ht hy => ?_)⟩
              by_cases z : t = k
              · subst z; rw [HX.out] at hy; obtain rfl := Option.some.inj hy; exact HQ.out
              · exact HA.out t y (by omega) hy
            case measure => simp [intOf]; omega
          | false =>
            have hno : ¬ l.all mbB = true := fun z => by
              have := List.all_eq_true.1 z x (List.mem_of_getElem? HX.out)
              rw [q] at this; cases this
            have hE : E = 1 := by rw [HE.out, if_neg hno]
            have key : decide (x.ch < 0) = true ∨ (decide (x.ch < 0) = false ∧ decide (10000 < x.ch) = true) := by
              have hm : ¬ (0 ≤ x.ch ∧ x.ch ≤ 10000) := fun z => by
                have : mbB x = true := by simpa [mbB] using z
                rw [q] at this; cases this
              simp only [decide_eq_true_eq, decide_eq_false_iff_not]; omega
            subst hE
            clear q hno
            rcases key with t1 | ⟨t1, t2⟩
            all_goals
              go_wp2_with fail
              go_ret
              exact ⟨rfl, rfl⟩
        · have hyes : l.all mbB = true := List.all_eq_true.2 fun x hx => by
            obtain ⟨i, hi⟩ := List.getElem?_of_mem hx
            have := (List.getElem?_eq_some_iff.1 hi).1
            exact HA.out i x (by rw [HN.out] at this; omega) hi
          have hE : E = 0 := by rw [HE.out, if_pos hyes]
          have hk1 : ¬ (k : Int) < (n : Int) := by omega
          subst hE
          clear hyes
          go_wp2_with fail
          go_ret
          exact ⟨rfl, rfl⟩

set_option maxRecDepth 100000 in
set_option maxHeartbeats 4000000 in
theorem qpr_any (s S : Int) (a : Option Addr) (len cap : Nat) (w : World) (h : Ex w s a len cap S) (hS : Small S) : Calls Tryz.prog 108 #[.agg #[.int .i64 s, .slice a len cap]] w (CopR w (pricV S) (pricE S)) := by
  have HF := Lib.hid (fun (W : World) (q : Below w.heap.size w W) => fit_any s S a len cap W (h.below q) hS)
  obtain ⟨PE, hPE⟩ : ∃ PE, PE = pricE S := ⟨_, rfl⟩
  obtain ⟨PV, hPV⟩ : ∃ PV, PV = pricV S := ⟨_, rfl⟩
  have hpv : PV = if PE = 0 then S else 0 := by rw [hPE]; exact hPV
  unfold CopR
  rw [← hPE, ← hPV]
  clear h hS
  cases q1 : am64 S with
  | false =>
    obtain ⟨t1, t2⟩ := tell_no64 q1
    rw [t1, t2] at HF
    have hpe : PE = 3 := by rw [hPE]; unfold pricE; rw [q1]; rfl
    have hpv0 : PV = 0 := by rw [hpv, if_neg (by rw [hpe]; decide)]
    clear hPE hPV hpv
    subst hpe hpv0
    clear t1 t2 q1
    go_enter Tryz.func108, Tryz.ntmps108
    go_wp2_with fail
    refine (HF.out _ (boxed _ _)).mono ?_
    rintro e w1 ⟨rfl, hb⟩
    have HB := Lib.hid (up2 (boxed _ _) hb)
    clear hb
    go_wp2_with fail
    go_ret2
    exact ⟨rfl, HB.out⟩
  | true =>
    obtain ⟨t1, t2⟩ := tell_am64 q1
    rw [t1, t2] at HF
    by_cases q2 : S < 0
    · have hpe : PE = 1 := by rw [hPE]; unfold pricE; rw [if_pos q1, if_pos q2]
      have hpv0 : PV = 0 := by rw [hpv, if_neg (by rw [hpe]; decide)]
      have q3 : decide (S < 0) = true := decide_eq_true q2
      clear hPE hPV hpv
      subst hpe hpv0
      clear t1 t2 q1 q2
      go_enter Tryz.func108, Tryz.ntmps108
      go_wp2_with fail
      refine (HF.out _ (boxed _ _)).mono ?_
      rintro e w1 ⟨rfl, hb⟩
      have HB := Lib.hid (up2 (boxed _ _) hb)
      clear hb
      go_wp2_with fail
      go_ret2
      exact ⟨rfl, HB.out⟩
    · have hpe : PE = 0 := by rw [hPE]; unfold pricE; rw [if_pos q1, if_neg q2]
      have hpv0 : PV = S := by rw [hpv, if_pos hpe]
      have q3 : decide (S < 0) = false := decide_eq_false q2
      clear hPE hPV hpv
      subst hpe hpv0
      clear t1 t2 q1 q2
      go_enter Tryz.func108, Tryz.ntmps108
      go_wp2_with fail
      refine (HF.out _ (boxed _ _)).mono ?_
      rintro e w1 ⟨rfl, hb⟩
      have HB := Lib.hid (up2 (boxed _ _) hb)
      clear hb
      go_wp2_with fail
      go_ret2
      exact ⟨rfl, HB.out⟩
end Go.Proofs.YtklaonoekmhakaaGreat

namespace Go.Proofs.YtklaonoekmhakaaGreat
open Go.RowKit

theorem sumM_bd {g : Mb → Int} {B : Int} {l : List Mb} (h : ∀ x ∈ l, -B ≤ g x ∧ g x ≤ B) : -(B * (l.length : Int)) ≤ sumM g l ∧ sumM g l ≤ B * (l.length : Int) := by
  induction l with
  | nil => simp [sumM]
  | cons x l ih =>
    have h1 := h x (by simp)
    have := ih fun y hy => h y (by simp [hy])
    simp only [sumM, List.length_cons]
    rw [show ((l.length + 1 : Nat) : Int) = (l.length : Int) + 1 by omega, Int.mul_add]
    omega
theorem surA_bd {b : Int} {x : Mb} (h : Am x.am) : -9223372036854775808 ≤ surA b x ∧ surA b x ≤ 9223372036854775808 := by
  unfold Am at h
  unfold surA; split <;> omega
theorem take_all {P : Mb → Prop} {l : List Mb} (h : ∀ x ∈ l, P x) (k : Nat) : ∀ x ∈ l.take k, P x := fun x hx => h x (List.mem_of_mem_take hx)
theorem lik_small {f b : Int} {l : List Mb} (hf : Am f) (ha : ∀ x ∈ l, mbG x) (hn : l.length ≤ 32) (k : Nat) : Small (f + sumM (surA b) (l.take k)) := by
  have h1 := sumM_bd (g := surA b) (B := 9223372036854775808) (l := l.take k) (fun x hx => by
    have := surA_bd (b := b) (take_all ha k x hx).1
    omega)
  have h2 : ((l.take k).length : Int) ≤ 32 := by rw [List.length_take]; omega
  unfold Am at hf
  refine small126 ⟨?_, ?_⟩ <;> omega
set_option maxRecDepth 100000 in
set_option maxHeartbeats 8000000 in
theorem qlik_any (f b : Int) (a : Option Addr) (n cap : Nat) (l : List Mb) (w : World) (hn : l.length = n) (hl : MbA w a l) (hf : Am f) (ha : ∀ x ∈ l, mbG x) :
    Calls Tryz.prog 73 #[.int .i64 f, .slice a n cap, .int .i64 b] w (CopR w (likV f l b) (likE f l b)) := by
  have HW := Lib.hid (qwrong_any f b a n cap l w hn hl)
  unfold CopR
  obtain ⟨E, hE⟩ : ∃ E, E = wrE f l b := ⟨_, rfl⟩
  by_cases q : E = 0
  · have hw : wrE f l b = 0 := by rw [← hE]; exact q
    obtain ⟨hlen, _, hb0, hb1, hch⟩ := wrE_zero hw
    have hce : likE f l b = pricE (likS f l b) := by unfold likE; rw [if_neg (by rw [hw]; decide)]
    have hcv : likV f l b = pricV (likS f l b) := by unfold likV pricV; rw [hce]
    rw [hw] at HW
    rw [hce, hcv]
    rw [hn] at hlen
    have HSm := Lib.hid (fun k => lik_small (b := b) hf ha (by rw [hn]; exact hlen) k)
    obtain ⟨PE, hPE⟩ : ∃ PE, PE = pricE (likS f l b) := ⟨_, rfl⟩
    obtain ⟨PV, hPV⟩ : ∃ PV, PV = pricV (likS f l b) := ⟨_, rfl⟩
    rw [← hPE, ← hPV]
    have HPr : Hid (∀ (s : Int) (a : Option Addr) (len cap : Nat) (W : World), Ex W s a len cap (f + sumM (surA b) (l.take n)) → Calls Tryz.prog 108 #[.agg #[.int .i64 s, .slice a len cap]] W (CopR W PV PE)) := fun s a len cap W h => by
      have e : l.take n = l := by rw [← hn]; exact List.take_length
      have hs := lik_small (b := b) hf ha (by rw [hn]; exact hlen) n
      rw [e] at h hs
      rw [hPE, hPV]
      exact qpr_any s (likS f l b) a len cap W h hs
    have HOf := Lib.hid (fun W => of_any f W hf.1 hf.2)
    have HL := Lib.hid hl
    have HN := Lib.hid hn
    have HAm := Lib.hid ha
    have HCh := Lib.hid hch
    clear hl hf ha hn hE q hw hce hcv hPE hPV hch
    go_enter Tryz.func73, Tryz.ntmps73
    go_wp2_with fail
    refine HW.out.mono ?_
    rintro e w1 ⟨rfl, rfl⟩
    go_wp2_with fail
    refine (HOf.out _).mono ?_
    rintro e w1 ⟨s0, a0, len0, cap0, rfl, hE0, hb⟩
    have HT := Lib.hid (SmX.of hE0)
    have HB1 := Lib.hid (up2 hb (boxed w1 (.cells #[.int .i64 s0, .slice a0 len0 cap0] 135)))
    have HG : Hid (w.heap.size ≤ w1.heap.size) := hb.size
    clear hE0 hb
    go_wp2_with fail
    obtain ⟨W0, hW0⟩ : ∃ W0, W0 = w1.alloc (.cells #[.int .i64 s0, .slice a0 len0 cap0] 135) := ⟨_, rfl⟩
    rw [← hW0] at HT HB1
    rw [← hW0]
    obtain ⟨g, hg⟩ : ∃ g, g = w1.heap.size := ⟨_, rfl⟩
    rw [← hg] at HT HG
    rw [← hg]
    clear hW0 hg
    go_loopw [10] (fun i wr => ∃ k : Nat, k ≤ n ∧ i = .int .i64 (k : Int) ∧ (∃ s a2 l2 c2, SmX wr g (f + sumM (surA b) (l.take k)) s a2 l2 c2) ∧ Below w.heap.size w wr) (fun i _ => n - (intOf i).toNat)
    case atStart => exact ⟨0, Nat.zero_le _, rfl, ⟨_, _, _, _, by rw [List.take_zero]; show SmX _ _ (f + 0) _ _ _ _; rw [Int.add_zero]; exact HT.out⟩, HB1.out⟩
    case round =>
      obtain ⟨k, hk, rfl, ⟨s, a2, l2, c2, hT⟩, hb⟩ := hrel
      have HS := Lib.hid hT
      have HB := Lib.hid hb
      clear hT hb
      obtain ⟨c0, c1, e0, e1⟩ := HS.out.row
      by_cases hlt : k < n
      · obtain ⟨x, hx⟩ : ∃ x, l[k]? = some x := ⟨l[k]'(by rw [HN.out]; exact hlt), List.getElem?_eq_getElem _⟩
        obtain ⟨bb, o, hab, z0, z1⟩ := mb_at (HL.out.up HB.out) hx
        subst hab
        have hmem := List.mem_of_getElem? hx
        obtain ⟨⟨f1, f2⟩, _⟩ := HAm.out x hmem
        obtain ⟨p0, p1⟩ := HCh.out x hmem
        have hsum := sumM_take (g := surA b) hx
        have hk0 : (0 : Int) ≤ (k : Int) := by omega
        have hk1 : (k : Int) < (n : Int) := by omega
        have hw1 : IntKind.i64.wrap ((k : Int) + 1) = (k : Int) + 1 := IntWalk.i64_in _ (by omega)
        have hwc : wrap64 (x.ch + b) = x.ch + b := IntWalk.wrap64_in _ ⟨by omega, by omega⟩
        obtain ⟨A, hA⟩ : ∃ A, A = x.am := ⟨_, rfl⟩
        obtain ⟨C, hC⟩ : ∃ C, C = x.ch := ⟨_, rfl⟩
        obtain ⟨v, hv⟩ : ∃ v, v = f + sumM (surA b) (l.take k) := ⟨_, rfl⟩
        have hsv : Small v := by rw [hv]; exact HSm.out k
        have HSv := Lib.hid hsv
        rw [← hv] at HS
        have key : (f + sumM (surA b) (l.take (k + 1)) = v + A ∧ ((decide (0 ≤ A) = true ∧ decide (b ≤ C) = true) ∨ (decide (0 ≤ A) = false ∧ decide (A < 0) = true ∧ decide (10000 < C + b) = true))) ∨
            (f + sumM (surA b) (l.take (k + 1)) = v ∧ ((decide (0 ≤ A) = true ∧ decide (b ≤ C) = false ∧ decide (A < 0) = false) ∨ (decide (0 ≤ A) = false ∧ decide (A < 0) = true ∧ decide (10000 < C + b) = false))) := by
          rw [hsum, hv, hA, hC]
          unfold surA surB
          by_cases y1 : 0 ≤ x.am
          · have y2 : ¬ x.am < 0 := by omega
            by_cases y3 : b ≤ x.ch
            · left; simp [y1, y2, y3]; omega
            · right; simp [y1, y2, y3]
          · have y2 : x.am < 0 := by omega
            by_cases y3 : 10000 < x.ch + b
            · left; simp [y1, y2, y3]; omega
            · right; simp [y1, y2, y3]
        rw [← hA] at z0 f1 f2
        rw [← hC] at z1 hwc
        clear hx hmem p0 p1 hsum hA hC hv hsv
        rcases key with ⟨hs1, key⟩ | ⟨hs1, key⟩
        · have HS1 := Lib.hid hs1
          clear hs1
          rcases key with ⟨k1, k2⟩ | ⟨k1, k2, k3⟩
          all_goals
            go_wp2_with fail
            go_region_with (first | (go_at_call 77; ((with_reducible refine (of_any A _ f1 f2).mono ?_); rintro e' w1 ⟨s1, a1, n1, p1, rfl, hE1, hb1⟩; have kT1 := Lib.hid (HS.out.drew.up hb1); have kE1 := Lib.hid hE1; have kB1 := Lib.hid (up2 HB.out.drew hb1); clear hE1 hb1; obtain ⟨x0, x1, y0, y1⟩ := kT1.out.row)) | (go_at_call 76; ((with_reducible refine (plus_ex s s1 v A a2 a1 l2 n1 c2 p1 _ kT1.out.ex kE1.out HSv.out (small64 f1 f2)).mono ?_); rintro e' w2 ⟨s2, a3, n2, p2, rfl, hE2, hb2⟩; have kT2 := Lib.hid (kT1.out.up hb2); have kE2 := Lib.hid hE2; have kB2 := Lib.hid (up2 kB1.out hb2); clear hE2 hb2; obtain ⟨u2, u3, v2, v3⟩ := kT2.out.row)))
            all_goals
              go_wp2_with fail
              go_roundw
              case rel =>
                refine ⟨k + 1, by omega, by go_num, ⟨s2, a3, n2, p2, ?_⟩, (kB2.out.setCell HG.out _).setCell HG.out _⟩
                rw [HS1.out]; exact kT2.out.put kE2.out
              case measure => simp [intOf]; omega
        · have HS1 := Lib.hid hs1
          clear hs1
          rcases key with ⟨k1, k2, k3⟩ | ⟨k1, k2, k3⟩
          all_goals
            go_wp2_with fail
            go_roundw
            case rel =>
              refine ⟨k + 1, by omega, by go_num, ⟨s, a2, l2, c2, ?_⟩, HB.out⟩
              rw [HS1.out]; exact HS.out
            case measure => simp [intOf]; omega
      · obtain rfl : k = n := by omega
        have hk1 : ¬ (k : Int) < (k : Int) := by omega
        have HF := Lib.hid (HPr.out s a2 l2 c2 wr HS.out.ex)
        unfold CopR at HF
        go_wp2_with fail
        refine HF.out.mono ?_
        rintro e w2 ⟨rfl, hb2⟩
        have HB2 := Lib.hid (up2 HB.out hb2)
        clear hb2
        go_wp2_with fail
        go_ret2
        exact ⟨rfl, HB2.out⟩
  · have hne : wrE f l b ≠ 0 := by rw [← hE]; exact q
    have hce : likE f l b = E := by unfold likE; rw [if_pos hne, hE]
    have hcv : likV f l b = 0 := by unfold likV; rw [if_neg (by rw [hce]; exact q)]
    rw [← hE] at HW
    rw [hce, hcv]
    have hq : (E != 0) = true := by simpa using q
    clear hl hE hne hce hcv q hf ha hn
    go_enter Tryz.func73, Tryz.ntmps73
    go_wp2_with fail
    refine HW.out.mono ?_
    rintro e w1 ⟨rfl, rfl⟩
    go_wp2_with fail
    go_ret2
    exact ⟨rfl, Below.refl _ _⟩
end Go.Proofs.YtklaonoekmhakaaGreat

namespace Go.Proofs.YtklaonoekmhakaaGreat
open Go.RowKit

theorem infoPRT : (Tryz.prog.info? 62).map (fun i => (i.zero, i.size, i.bytes)) = some (some (.pointer none), 1, 8) := by kernel_rfl
section
variable {w w' : World} {P : List (Nat × Nat)} {T : List Trk}
theorem Tqs.keepT (h : Tqs w P T) (hs : ∀ g T' cs, Has w g T' cs → T' = 61 ∨ T' = 57 ∨ T' = 145 ∨ T' = 139 ∨ T' = 3 → Has w' g T' cs) : Tqs w' P T :=
  ⟨h.len, fun t x y hx hy => (h.trk t x y hx hy).keep fun g T' cs hh hT _ _ => hs g T' cs hh hT, h.apart⟩
theorem Tqs.snoc (h : Tqs w P T) {r k : Nat} {y : Trk} (hq : Tq w r k y.d y.E y.L) (hn : ∀ x ∈ P, x.1 ≠ r ∧ x.2 ≠ k) : Tqs w (P ++ [(r, k)]) (T ++ [y]) := by
  refine ⟨by rw [List.length_append, List.length_append, h.len]; rfl, fun t x z hx hz => ?_, ?_⟩
  · by_cases q : t < P.length
    · rw [List.getElem?_append_left q] at hx
      rw [List.getElem?_append_left (by rw [← h.len]; exact q)] at hz
      exact h.trk t x z hx hz
    · rw [List.getElem?_append_right (by omega)] at hx
      rw [List.getElem?_append_right (by rw [← h.len]; omega), ← h.len] at hz
      match hk : t - P.length, hx, hz with
      | 0, hx, hz =>
        simp at hx hz
        subst hx; subst hz
        exact hq
      | m + 1, hx, _ =>
        simp at hx
  · rw [List.pairwise_append]
    refine ⟨h.apart, by simp, fun a ha b hb => ?_⟩
    obtain rfl : b = (r, k) := by simpa using hb
    exact hn a ha
end
/-- a contract on the way to be made: so many tracks -/
structure Cnw (w5 w : World) (x : Askd) (c : Nat) (P : List (Nat × Nat)) (tv : Value) (j : Nat) : Prop where
  has : Has w c 45 #[.int .i64 x.N, .int .i64 x.d, .int .i64 0, tv]
  own : w.ownsRow w5.heap.size 62 1 tv j (P.flatMap ptC)
  len : P.length = j
  trs : Tqs w P (x.C.T.take j)
  new : ∀ y ∈ P, w5.heap.size ≤ y.1 ∧ w5.heap.size ≤ y.2
  c0 : w5.heap.size ≤ c
  bel : Below w5.heap.size w5 w
section
variable {w5 w w' : World} {x : Askd} {c : Nat} {P : List (Nat × Nat)} {tv : Value} {j : Nat}
theorem Cnw.up (h : Cnw w5 w x c P tv j) (q : Below w.heap.size w w') : Cnw w5 w' x c P tv j :=
  ⟨h.has.up q, own_up h.own q, h.len, h.trs.up q, h.new, h.c0, up2 h.bel q⟩
theorem Cnw.start (w5 : World) (x : Askd) : Cnw w5 (w5.alloc (.cells #[.int .i64 x.N, .int .i64 x.d, .int .i64 0, .slice none 0 0] 45)) x w5.heap.size [] (.slice none 0 0) 0 :=
  ⟨Has.fresh _ _ _, World.ownsRow_nil _ _ _ _, rfl, ⟨by simp, fun t y z hy _ => (by simp at hy), .nil⟩, fun y hy => (by cases hy), Nat.le_refl _, boxed _ _⟩
/-- one track more -/
theorem Cnw.more (h : Cnw w5 w x c P tv j) (hj : j < x.C.T.length) (hj2 : j ≤ 64) {r k : Nat} {w7 : World} (hb : Below w.heap.size w w7) (hq : Tq w7 r k (x.C.T.getD j trk0).d (x.C.T.getD j trk0).E (x.C.T.getD j trk0).L) (hr : w.heap.size ≤ r) (hk : w.heap.size ≤ k) {W8 : World} (hW : W8 = w7.alloc (.cells #[.pointer (some ⟨r, 0, none⟩)] 62)) :
    ∃ ta tc a' c' w9, tv = .slice ta j tc ∧ (Builtin.append_ #[43, 43] 43 #[.slice ta j tc, .slice (some ⟨w7.heap.size, 0, none⟩) 1 1]).run Tryz.prog W8 = .ok (.slice a' (j + 1) c') w9 ∧ w9.cell? ⟨c, 3, none⟩ = some tv ∧ w9.frozen? ⟨c, 3, none⟩ = false ∧ Cnw w5 (w9.setCell ⟨c, 3, none⟩ (.slice a' (j + 1) c')) x c (P ++ [(r, k)]) (.slice a' (j + 1) c') (j + 1) := by
  have h7 := h.up hb
  have hb8 : Below w7.heap.size w7 W8 := by rw [hW]; exact boxed _ _
  have h8 := h7.up hb8
  have hq8 := hq.up hb8
  obtain ⟨ta, tc, rfl, _, _⟩ := own_form3 h8.own
  obtain ⟨i, hi, hz0, hz1, hz2⟩ := info_parts infoPRT
  have hy : Has W8 w7.heap.size 62 #[.pointer (some ⟨r, 0, none⟩)] := by rw [hW]; exact Has.fresh _ _ _
  obtain ⟨v', w9, hrun, ho, hg, _⟩ := run_append_own_at (P := Tryz.prog) W8 w5.heap.size 43 43 62 i _ 1 8 Tryz.underlying43 hi hz0 hz1 hz2 rfl (by decide) _ j _ h8.own ⟨w7.heap.size, 0, none⟩ 1 1 (ptC (r, k)) rfl
    (fun j u hu => by
      rw [addr_off, Nat.zero_add, hy.cell]
      exact (List.getElem?_toArray (xs := ptC (r, k)) (i := j)).trans hu)
    (fun u hu => by simp [ptC] at hu; rw [hu]; rfl) (by unfold maxLen; omega) (by omega) h8.bel.size
  obtain ⟨a', c', rfl⟩ := own_formb ho
  have hcne : (Value.slice ta j tc).ownBlock ≠ some c := own_ne h8.own h8.has (by decide)
  have hc9 : Has w9 c 45 _ := (hg.block c h8.has.lt (fun e => hcne e.symm)).trans h8.has
  have hset := grown_set w9 c 3 (.slice a' (j + 1) c')
  have hkeep : ∀ g T' cs, Has W8 g T' cs → T' = 61 ∨ T' = 57 ∨ T' = 145 ∨ T' = 139 ∨ T' = 3 → Has (w9.setCell ⟨c, 3, none⟩ (.slice a' (j + 1) c')) g T' cs := fun g T' cs hh hT => by
    have h1 : Has w9 g T' cs := (hg.block g hh.lt (fun e => own_ne h8.own hh (by rcases hT with rfl | rfl | rfl | rfl | rfl <;> decide) e.symm)).trans hh
    exact (hset.block g h1.lt (fun e => h1.ne hc9 (by rcases hT with rfl | rfl | rfl | rfl | rfl <;> decide) (Option.some.inj e))).trans h1
  have hbel : Below w5.heap.size w5 (w9.setCell ⟨c, 3, none⟩ (.slice a' (j + 1) c')) := by
    refine (h8.bel.grown hg h8.bel.size fun g e => (h8.own.lt g e).1).grown hset ?_ fun g e => ?_
    · exact Nat.le_trans h8.bel.size hg.size
    · have : c = g := Option.some.inj e
      subst this; exact h.c0
  refine ⟨ta, tc, a', c', w9, rfl, hrun, ?_, hc9.free 3, ⟨?_, ?_, by rw [List.length_append, h.len]; rfl, ?_, fun y hy => ?_, h.c0, hbel⟩⟩
  · have := hc9.cell 3; simpa using this
  · have := hc9.put 3 (.slice a' (j + 1) c'); simpa using this
  · have := own_beside ho hc9 (by decide) hset
    rw [List.flatMap_append]
    simpa using this
  · have ht : x.C.T.take (j + 1) = x.C.T.take j ++ [x.C.T.getD j trk0] := by
      rw [List.take_add_one, List.getD_eq_getElem?_getD, List.getElem?_eq_getElem hj]; rfl
    rw [ht]
    refine Tqs.keepT (h8.trs.snoc hq8 fun y hy => ?_) hkeep
    obtain ⟨⟨_, h1⟩, ⟨_, h2⟩⟩ := h.trs.lt hy
    have := h1.lt
    have := h2.lt
    constructor <;> omega
  · rcases List.mem_append.1 hy with hy | hy
    · exact h.new y hy
    · obtain rfl : y = (r, k) := by simpa using hy
      have := h.bel.size
      exact ⟨by show _ ≤ r; omega, by show _ ≤ k; omega⟩
theorem Cnw.done (h : Cnw w5 w x c P tv x.C.T.length) (F : FineC x.C) : Cq w c P x.C := by
  refine ⟨tv, h.has, ?_, ?_, F⟩
  · have := own_zero h.own
    rw [h.len]; exact this
  · have := h.trs
    rwa [List.take_of_length_le (Nat.le_refl _)] at this
end
/-- what New answers -/
def QCnR (w : World) (x : Askd) (e : Ending) (w' : World) : Prop := Below w.heap.size w w' ∧ ((x.E ≠ 0 ∧ e = .returned (.tuple #[.pointer none, .int .i64 x.E])) ∨ (x.E = 0 ∧ ∃ c P, e = .returned (.tuple #[.pointer (some ⟨c, 0, none⟩), .int .i64 0]) ∧ Cq w' c P x.C ∧ ∀ g, Cqs c P g → w.heap.size ≤ g))
theorem QCnR.no {w w' : World} {x : Askd} {X : Int} (h : x.E = X) (h0 : X ≠ 0) (hb : Below w.heap.size w w') : QCnR w x (.returned (.tuple #[.pointer none, .int .i64 X])) w' := ⟨hb, .inl ⟨by rw [h]; exact h0, by rw [h]⟩⟩
end Go.Proofs.YtklaonoekmhakaaGreat
