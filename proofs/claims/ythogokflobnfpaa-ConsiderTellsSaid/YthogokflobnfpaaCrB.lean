/- The reference's Likely. -/
import Derived.Test.YthogokflobnfpaaCrA
namespace Go.Proofs.Ythogokflobnfpaa
open Go.RowKit

theorem small126 {x : Int} (h : -85070591730234615865843651857942052864 ≤ x ∧ x ≤ 85070591730234615865843651857942052864) : Small x := by
  have h3' : (x.natAbs : Int) ≤ 85070591730234615865843651857942052864 := by omega
  have h5 : (1000 : Int) ^ 20 * 1 ≤ 1000 ^ (20 + 180) := by
    rw [Int.pow_add]; exact Int.mul_le_mul_of_nonneg_left (by have := pow_pos' 180; omega) (by decide)
  have h6 : (1000 : Int) ^ 20 = 1000000000000000000000000000000000000000000000000000000000000 := by decide
  have h7 : (1000 : Int) ^ (20 + 180) = 1000 ^ 200 := rfl
  rw [h6, h7] at h5
  unfold Small
  generalize (1000 : Int) ^ 200 = P at *
  omega
theorem sumM_bd {g : Mb → Int} {B : Int} {l : List Mb} (h : ∀ x ∈ l, -B ≤ g x ∧ g x ≤ B) : -(B * (l.length : Int)) ≤ sumM g l ∧ sumM g l ≤ B * (l.length : Int) := by
  induction l with
  | nil => simp [sumM]
  | cons x l ih =>
    have h1 := h x (by simp)
    have := ih fun y hy => h y (by simp [hy])
    simp only [sumM, List.length_cons]
    rw [show ((l.length + 1 : Nat) : Int) = (l.length : Int) + 1 by omega, Int.mul_add]
    omega
theorem surA_bd {b : Int} {x : Mb} (h : Am x.am) : -9223372036854775808 ≤ surA b x ∧ surA b x ≤ 9223372036854775808 := by
  unfold Am at h
  unfold surA; split <;> omega
theorem take_all {P : Mb → Prop} {l : List Mb} (h : ∀ x ∈ l, P x) (k : Nat) : ∀ x ∈ l.take k, P x := fun x hx => h x (List.mem_of_mem_take hx)
theorem lik_small {f b : Int} {l : List Mb} (hf : Am f) (ha : ∀ x ∈ l, mbG x) (hn : l.length ≤ 32) (k : Nat) : Small (f + sumM (surA b) (l.take k)) := by
  have h1 := sumM_bd (g := surA b) (B := 9223372036854775808) (l := l.take k) (fun x hx => by
    have := surA_bd (b := b) (take_all ha k x hx).1
    omega)
  have h2 : ((l.take k).length : Int) ≤ 32 := by rw [List.length_take]; omega
  unfold Am at hf
  refine small126 ⟨?_, ?_⟩ <;> omega
theorem SmX.of {W : World} {s : Int} {a : Option Addr} {len cap : Nat} {n : Int} (h : Ex W s a len cap n) : SmX (W.alloc (.cells #[.int .i64 s, .slice a len cap] 44)) W.heap.size n s a len cap :=
  ⟨Has.fresh _ _ _, h.below (boxed _ _)⟩
theorem SmX.lt {W : World} {b : Nat} {v s : Int} {a : Option Addr} {len cap : Nat} (h : SmX W b v s a len cap) : b < W.heap.size := h.has.lt

set_option maxRecDepth 100000 in
set_option maxHeartbeats 8000000 in
theorem qlik_any (f b : Int) (a : Option Addr) (n cap : Nat) (l : List Mb) (w : World) (hn : l.length = n) (hl : MbA w a l) (hf : Am f) (ha : ∀ x ∈ l, mbG x) :
    Calls Try.prog 9 #[.int .i64 f, .slice a n cap, .int .i64 b] w (CopR w (likV f l b) (likE f l b)) := by
  have HW := Lib.hid (qwrong_any f b a n cap l w hn hl)
  unfold CopR
  obtain ⟨E, hE⟩ : ∃ E, E = wrE f l b := ⟨_, rfl⟩
  by_cases q : E = 0
  · have hw : wrE f l b = 0 := by rw [← hE]; exact q
    obtain ⟨hlen, _, hb0, hb1, hch⟩ := wrE_zero hw
    have hce : likE f l b = pricE (likS f l b) := by unfold likE; rw [if_neg (by rw [hw]; decide)]
    have hcv : likV f l b = pricV (likS f l b) := by unfold likV pricV; rw [hce]
    rw [hw] at HW
    rw [hce, hcv]
    rw [hn] at hlen
    have HSm := Lib.hid (fun k => lik_small (b := b) hf ha (by rw [hn]; exact hlen) k)
    obtain ⟨PE, hPE⟩ : ∃ PE, PE = pricE (likS f l b) := ⟨_, rfl⟩
    obtain ⟨PV, hPV⟩ : ∃ PV, PV = pricV (likS f l b) := ⟨_, rfl⟩
    rw [← hPE, ← hPV]
    have HPr : Hid (∀ (s : Int) (a : Option Addr) (len cap : Nat) (W : World), Ex W s a len cap (f + sumM (surA b) (l.take n)) → Calls Try.prog 17 #[.agg #[.int .i64 s, .slice a len cap]] W (CopR W PV PE)) := fun s a len cap W h => by
      have e : l.take n = l := by rw [← hn]; exact List.take_length
      have hs := lik_small (b := b) hf ha (by rw [hn]; exact hlen) n
      rw [e] at h hs
      rw [hPE, hPV]
      exact qpr_any s (likS f l b) a len cap W h hs
    have HOf := Lib.hid (fun W => of_any f W hf.1 hf.2)
    have HL := Lib.hid hl
    have HN := Lib.hid hn
    have HAm := Lib.hid ha
    have HCh := Lib.hid hch
    clear hl hf ha hn hE q hw hce hcv hPE hPV hch
    go_enter Try.func9, Try.ntmps9
    go_wp2_with fail
    refine HW.out.mono ?_
    rintro e w1 ⟨rfl, rfl⟩
    go_wp2_with fail
    refine (HOf.out _).mono ?_
    rintro e w1 ⟨s0, a0, len0, cap0, rfl, hE0, hb⟩
    have HT := Lib.hid (SmX.of hE0)
    have HB1 := Lib.hid (up2 hb (boxed w1 (.cells #[.int .i64 s0, .slice a0 len0 cap0] 44)))
    have HG : Hid (w.heap.size ≤ w1.heap.size) := hb.size
    clear hE0 hb
    go_wp2_with fail
    obtain ⟨W0, hW0⟩ : ∃ W0, W0 = w1.alloc (.cells #[.int .i64 s0, .slice a0 len0 cap0] 44) := ⟨_, rfl⟩
    rw [← hW0] at HT HB1
    rw [← hW0]
    obtain ⟨g, hg⟩ : ∃ g, g = w1.heap.size := ⟨_, rfl⟩
    rw [← hg] at HT HG
    rw [← hg]
    clear hW0 hg
    go_loopw [10] (fun i wr => ∃ k : Nat, k ≤ n ∧ i = .int .i64 (k : Int) ∧ (∃ s a2 l2 c2, SmX wr g (f + sumM (surA b) (l.take k)) s a2 l2 c2) ∧ Below w.heap.size w wr) (fun i _ => n - (intOf i).toNat)
    case atStart => exact ⟨0, Nat.zero_le _, rfl, ⟨_, _, _, _, by rw [List.take_zero]; show SmX _ _ (f + 0) _ _ _ _; rw [Int.add_zero]; exact HT.out⟩, HB1.out⟩
    case round =>
      obtain ⟨k, hk, rfl, ⟨s, a2, l2, c2, hT⟩, hb⟩ := hrel
      have HS := Lib.hid hT
      have HB := Lib.hid hb
      clear hT hb
      obtain ⟨c0, c1, e0, e1⟩ := HS.out.row
      by_cases hlt : k < n
      · obtain ⟨x, hx⟩ : ∃ x, l[k]? = some x := ⟨l[k]'(by rw [HN.out]; exact hlt), List.getElem?_eq_getElem _⟩
        obtain ⟨bb, o, hab, z0, z1⟩ := mb_at (HL.out.up HB.out) hx
        subst hab
        have hmem := List.mem_of_getElem? hx
        obtain ⟨⟨f1, f2⟩, _⟩ := HAm.out x hmem
        obtain ⟨p0, p1⟩ := HCh.out x hmem
        have hsum := sumM_take (g := surA b) hx
        have hk0 : (0 : Int) ≤ (k : Int) := by omega
        have hk1 : (k : Int) < (n : Int) := by omega
        have hw1 : IntKind.i64.wrap ((k : Int) + 1) = (k : Int) + 1 := IntWalk.i64_in _ (by omega)
        have hwc : wrap64 (x.ch + b) = x.ch + b := IntWalk.wrap64_in _ ⟨by omega, by omega⟩
        obtain ⟨A, hA⟩ : ∃ A, A = x.am := ⟨_, rfl⟩
        obtain ⟨C, hC⟩ : ∃ C, C = x.ch := ⟨_, rfl⟩
        obtain ⟨v, hv⟩ : ∃ v, v = f + sumM (surA b) (l.take k) := ⟨_, rfl⟩
        have hsv : Small v := by rw [hv]; exact HSm.out k
        have HSv := Lib.hid hsv
        rw [← hv] at HS
        have key : (f + sumM (surA b) (l.take (k + 1)) = v + A ∧ ((decide (0 ≤ A) = true ∧ decide (b ≤ C) = true) ∨ (decide (0 ≤ A) = false ∧ decide (A < 0) = true ∧ decide (10000 < C + b) = true))) ∨
            (f + sumM (surA b) (l.take (k + 1)) = v ∧ ((decide (0 ≤ A) = true ∧ decide (b ≤ C) = false ∧ decide (A < 0) = false) ∨ (decide (0 ≤ A) = false ∧ decide (A < 0) = true ∧ decide (10000 < C + b) = false))) := by
          rw [hsum, hv, hA, hC]
          unfold surA surB
          by_cases y1 : 0 ≤ x.am
          · have y2 : ¬ x.am < 0 := by omega
            by_cases y3 : b ≤ x.ch
            · left; simp [y1, y2, y3]; omega
            · right; simp [y1, y2, y3]
          · have y2 : x.am < 0 := by omega
            by_cases y3 : 10000 < x.ch + b
            · left; simp [y1, y2, y3]; omega
            · right; simp [y1, y2, y3]
        rw [← hA] at z0 f1 f2
        rw [← hC] at z1 hwc
        clear hx hmem p0 p1 hsum hA hC hv hsv
        rcases key with ⟨hs1, key⟩ | ⟨hs1, key⟩
        · have HS1 := Lib.hid hs1
          clear hs1
          rcases key with ⟨k1, k2⟩ | ⟨k1, k2, k3⟩
          all_goals
            go_wp2_with fail
            go_region_with (first | (go_at_call 15; ((with_reducible refine (of_any A _ f1 f2).mono ?_); rintro e' w1 ⟨s1, a1, n1, p1, rfl, hE1, hb1⟩; have kT1 := Lib.hid (HS.out.drew.up hb1); have kE1 := Lib.hid hE1; have kB1 := Lib.hid (up2 HB.out.drew hb1); clear hE1 hb1; obtain ⟨x0, x1, y0, y1⟩ := kT1.out.row)) | (go_at_call 16; ((with_reducible refine (plus_ex s s1 v A a2 a1 l2 n1 c2 p1 _ kT1.out.ex kE1.out HSv.out (small64 f1 f2)).mono ?_); rintro e' w2 ⟨s2, a3, n2, p2, rfl, hE2, hb2⟩; have kT2 := Lib.hid (kT1.out.up hb2); have kE2 := Lib.hid hE2; have kB2 := Lib.hid (up2 kB1.out hb2); clear hE2 hb2; obtain ⟨u2, u3, v2, v3⟩ := kT2.out.row)))
            all_goals
              go_wp2_with fail
              go_roundw
              case rel =>
                refine ⟨k + 1, by omega, by go_num, ⟨s2, a3, n2, p2, ?_⟩, (kB2.out.setCell HG.out _).setCell HG.out _⟩
                rw [HS1.out]; exact kT2.out.put kE2.out
              case measure => simp [intOf]; omega
        · have HS1 := Lib.hid hs1
          clear hs1
          rcases key with ⟨k1, k2, k3⟩ | ⟨k1, k2, k3⟩
          all_goals
            go_wp2_with fail
            go_roundw
            case rel =>
              refine ⟨k + 1, by omega, by go_num, ⟨s, a2, l2, c2, ?_⟩, HB.out⟩
              rw [HS1.out]; exact HS.out
            case measure => simp [intOf]; omega
      · obtain rfl : k = n := by omega
        have hk1 : ¬ (k : Int) < (k : Int) := by omega
        have HF := Lib.hid (HPr.out s a2 l2 c2 wr HS.out.ex)
        unfold CopR at HF
        go_wp2_with fail
        refine HF.out.mono ?_
        rintro e w2 ⟨rfl, hb2⟩
        have HB2 := Lib.hid (up2 HB.out hb2)
        clear hb2
        go_wp2_with fail
        go_ret2
        exact ⟨rfl, HB2.out⟩
  · have hne : wrE f l b ≠ 0 := by rw [← hE]; exact q
    have hce : likE f l b = E := by unfold likE; rw [if_pos hne, hE]
    have hcv : likV f l b = 0 := by unfold likV; rw [if_neg (by rw [hce]; exact q)]
    rw [← hE] at HW
    rw [hce, hcv]
    have hq : (E != 0) = true := by simpa using q
    clear hl hE hne hce hcv q hf ha hn
    go_enter Try.func9, Try.ntmps9
    go_wp2_with fail
    refine HW.out.mono ?_
    rintro e w1 ⟨rfl, rfl⟩
    go_wp2_with fail
    go_ret2
    exact ⟨rfl, Below.refl _ _⟩
end Go.Proofs.Ythogokflobnfpaa
