/- Contract: slices.symMergeCmpFunc, where one of both rows has one place. -/
import Derived.Test.YtbcdfkcgcaifjaaSoIns
namespace Go.Proofs.Ytbcdfkcgcaifjaa
open Go.RowKit
variable {w W : World} {b n rb g : Nat} {K f : Nat → Int}

/-- what a merge of two rows leaves -/
def Merged (w : World) (b n rb g : Nat) (K f : Nat → Int) (a c : Nat) (e : Ending) (w' : World) : Prop := e = .returned (.tuple #[]) ∧ ∃ h, SW w b n rb g K h w' ∧ Mix n a c f h ∧ Up (key n K) h a c

set_option maxRecDepth 1000000 in
set_option maxHeartbeats 1000000 in
theorem sym_one (HS : SW w b n rb g K f W) (cap a m c : Nat) (hm : m = a + 1) (h1 : m < c) (h2 : c ≤ n) (v : Up (key n K) f m c) (o : ∀ t, m ≤ t → t < c → f a < f t) :
    Calls Try.prog 66 #[.slice (some ⟨b, 0, none⟩) n cap, .int .i64 a, .int .i64 m, .int .i64 c, .func (.func 56) #[] #[.pointer (some ⟨rb, 0, none⟩)]] W (Merged w b n rb g K f a c) := by
  have H0 := Lib.hid HS
  have HO := Lib.hid o
  have HV := Lib.hid v
  have hsm := HS.small
  have FA := Lib.hid (HS.fit a (by omega))
  have i0 : IntKind.i64.wrap ((m : Int) - (a : Int)) = 1 := by rw [IntKind.wrap_i64]; omega
  have HM := Lib.hid hm
  clear HS o v hm
  go_enter Try.func66, Try.ntmps66
  go_wp2_with fail
  go_loopw [10, 11] (fun vi vj wr => ∃ i j : Nat, vi = .int .i64 i ∧ vj = .int .i64 j ∧ m ≤ i ∧ i ≤ j ∧ j ≤ c ∧ SW w b n rb g K f wr ∧ Hid (∀ t, m ≤ t → t < i → key n K (f t) < key n K (f a)) ∧ Hid (∀ t, j ≤ t → t < c → key n K (f a) < key n K (f t))) (fun vi vj _ => (intOf vj).toNat - (intOf vi).toNat)
  case atStart => exact ⟨m, c, rfl, rfl, Nat.le_refl _, by omega, Nat.le_refl _, H0.out, (fun t t1 t2 => by omega), (fun t t1 t2 => by omega)⟩
  case round =>
    obtain ⟨i, j, rfl, rfl, mi, ij, jc, hT, HL, HU⟩ := hrel
    have HT := Lib.hid hT
    clear hT i0
    by_cases hlt : i < j
    · obtain ⟨h, hh⟩ : ∃ h, h = (i + j) / 2 := ⟨_, rfl⟩
      have ih : i ≤ h := by omega
      have hj : h < j := by omega
      have i1 : IntKind.i64.wrap ((i : Int) + (j : Int)) = (i : Int) + (j : Int) := by rw [IntKind.wrap_i64]; omega
      have i2 : IntKind.u64.wrap ((i : Int) + (j : Int)) = (i : Int) + (j : Int) := by simp [IntKind.wrap, IntKind.bits, IntKind.signed]; omega
      have i3 : IntKind.i64.wrap (((i : Int) + (j : Int)) / 2) = (h : Int) := by rw [IntKind.wrap_i64]; omega
      have c1 := HT.out.cell (t := h) (by omega)
      have c2 := HT.out.cell (t := a) (by have := HM.out; omega)
      have HC := Lib.hid (fun q => HT.out.cmp (s := h) (t := a) (by omega) (by have := HM.out; omega) q)
      have F1 := Lib.hid (HT.out.fit h (by omega))
      have HA : Hid (a < n) := by have := HM.out; show a < n; omega
      have a1 : (a : Int) < (n : Int) := by have := HA.out; omega
      have a2 : (h : Int) < (n : Int) := by omega
      clear hh
      by_cases hcv : cmpV (K (f a).toNat) (K (f h).toNat) < 0
      · go_wp2_with fail
        go_quiet (first | (go_at_call 56; with_reducible exact HC.out _))
        have HT2 := Lib.hid (HT.out.drewN nq)
        clear HT HC c1 c2
        obtain ⟨Wq, hWq⟩ : ∃ Wq, Wq = wr.drewN nq := ⟨_, rfl⟩
        rw [← hWq] at HT2 ⊢
        clear hWq
        go_wp2_with fail
        go_roundw
        case rel =>
          refine ⟨h + 1, j, by go_num, rfl, by omega, by omega, jc, HT2.out, (fun t t1 t2 => ?_), HU.out⟩
          have q1 := (key_lt (K := K) FA.out.1 (HO.out h (by omega) (by omega)) F1.out.2).2 (cmpV_neg.1 hcv)
          have q2 := HV.out.le (s := t) (t := h) (by omega) (by omega) (by omega)
          omega
        case measure => simp [intOf]; omega
      · go_wp2_with fail
        go_quiet (first | (go_at_call 56; with_reducible exact HC.out _))
        have HT2 := Lib.hid (HT.out.drewN nq)
        clear HT HC c1 c2
        obtain ⟨Wq, hWq⟩ : ∃ Wq, Wq = wr.drewN nq := ⟨_, rfl⟩
        rw [← hWq] at HT2 ⊢
        clear hWq
        go_wp2_with fail
        go_roundw
        case rel =>
          refine ⟨i, h, rfl, by go_num, by omega, by omega, by omega, HT2.out, HL.out, (fun t t1 t2 => ?_)⟩
          have q1 := (key_gt (K := K) FA.out.1 (HO.out h (by omega) (by omega)) F1.out.2).2 (fun q => by have := cmpV_neg.2 q; omega)
          have q2 := HV.out.le (s := h) (t := t) (by omega) (by omega) (by omega)
          omega
        case measure => simp [intOf]; omega
    · have hij : i = j := by omega
      subst hij
      clear hlt ij
      have i4 : IntKind.i64.wrap ((i : Int) - 1) = ((i - 1 : Nat) : Int) := by have := HM.out; rw [IntKind.wrap_i64]; omega
      obtain ⟨ip, hip⟩ : ∃ ip, ip = i - 1 := ⟨_, rfl⟩
      rw [← hip] at i4
      have HP := Lib.hid hip
      have hai : a ≤ ip := by have := HM.out; omega
      have hpn : ip + 1 ≤ n := by omega
      clear hip
      obtain ⟨wo, hwo⟩ : ∃ wo, wo = wr := ⟨_, rfl⟩
      rw [← hwo] at HT ⊢
      clear hwo
      go_wp2_with fail
      go_loopw [13] (fun vk wr => ∃ k : Nat, vk = .int .i64 k ∧ a ≤ k ∧ k ≤ ip ∧ SW w b n rb g K (outs f a k) wr) (fun vk _ => ip - (intOf vk).toNat)
      case atStart => exact ⟨a, rfl, Nat.le_refl _, hai, by rw [outs_start]; exact HT.out⟩
      case round =>
        obtain ⟨k, rfl, ak, kp, hX⟩ := hrel
        have HX := Lib.hid hX
        clear hX
        by_cases hlt : k < ip
        · have c1 := HX.out.cell (t := k) (by omega)
          have c2 := HX.out.cell (t := k + 1) (by omega)
          have e1 := HX.out.free (t := k) (by omega)
          have e2 := HX.out.free (t := k + 1) (by omega)
          have jz : (k : Int) + 1 < (n : Int) := by omega
          have jz1 : (k : Int) < (n : Int) := by omega
          have p0 : (0 : Int) ≤ (k : Int) + 1 := by omega
          have e0 : ((k : Int) + 1).toNat = k + 1 := by omega
          have w1 : IntKind.i64.wrap ((k : Int) + 1) = (k : Int) + 1 := by rw [IntKind.wrap_i64]; omega
          have hltz : (k : Int) < (ip : Int) := by omega
          go_wp2_with fail
          go_region
          all_goals
            go_wp2_with fail
            go_roundw
            case rel => exact ⟨k + 1, by go_num, by omega, by omega, by rw [← outs_step f ak]; exact HX.out.swp (by omega) (by omega) (by omega)⟩
            case measure => simp [intOf]; omega
        · have hke : k = ip := by omega
          subst hke
          go_wp2_with fail
          refine bodyPost_ret (results_none rfl _ _ _) rfl ?_
          have hm := HM.out; have hp := HP.out
          refine ⟨rfl, _, HX.out, mix_outs f hai (by omega) h2, ?_⟩
          rw [hp]
          refine outs_up (f := f) (a := a) (i := i) (b := c) (by rw [← hm]; exact HV.out) (by omega) (by omega) (fun t t1 t2 => HL.out t (by omega) t2) HU.out
set_option maxRecDepth 1000000 in
set_option maxHeartbeats 1000000 in
theorem sym_two (HS : SW w b n rb g K f W) (cap a m c : Nat) (hm : c = m + 1) (ha : a < m) (hn : m - a ≠ 1) (h2 : c ≤ n) (v : Up (key n K) f a m) (o : ∀ t, a ≤ t → t < m → f t < f m) :
    Calls Try.prog 66 #[.slice (some ⟨b, 0, none⟩) n cap, .int .i64 a, .int .i64 m, .int .i64 c, .func (.func 56) #[] #[.pointer (some ⟨rb, 0, none⟩)]] W (Merged w b n rb g K f a c) := by
  have H0 := Lib.hid HS
  have HO := Lib.hid o
  have HV := Lib.hid v
  have hsm := HS.small
  have FM := Lib.hid (HS.fit m (by omega))
  have i0 : IntKind.i64.wrap ((c : Int) - (m : Int)) = 1 := by rw [IntKind.wrap_i64]; omega
  have i9 : IntKind.i64.wrap ((m : Int) - (a : Int)) = ((m - a : Nat) : Int) := by rw [IntKind.wrap_i64]; omega
  obtain ⟨d, hd⟩ : ∃ d, d = m - a := ⟨_, rfl⟩
  rw [← hd] at i9 hn
  have i8 : ((d : Int) == 1) = false := by simp; omega
  have hmn : m < n := by omega
  have HM := Lib.hid hm
  clear HS o v hm hd hn
  go_enter Try.func66, Try.ntmps66
  go_wp2_with fail
  go_loopw [14, 15] (fun vi vj wr => ∃ i j : Nat, vi = .int .i64 i ∧ vj = .int .i64 j ∧ a ≤ i ∧ i ≤ j ∧ j ≤ m ∧ SW w b n rb g K f wr ∧ Hid (∀ t, a ≤ t → t < i → key n K (f t) < key n K (f m)) ∧ Hid (∀ t, j ≤ t → t < m → key n K (f m) < key n K (f t))) (fun vi vj _ => (intOf vj).toNat - (intOf vi).toNat)
  case atStart => exact ⟨a, m, rfl, rfl, Nat.le_refl _, by omega, Nat.le_refl _, H0.out, (fun t t1 t2 => by omega), (fun t t1 t2 => by omega)⟩
  case round =>
    obtain ⟨i, j, rfl, rfl, mi, ij, jc, hT, HL, HU⟩ := hrel
    have HT := Lib.hid hT
    clear hT i0 i9 i8
    by_cases hlt : i < j
    · obtain ⟨h, hh⟩ : ∃ h, h = (i + j) / 2 := ⟨_, rfl⟩
      have ih : i ≤ h := by omega
      have hj : h < j := by omega
      have i1 : IntKind.i64.wrap ((i : Int) + (j : Int)) = (i : Int) + (j : Int) := by rw [IntKind.wrap_i64]; omega
      have i2 : IntKind.u64.wrap ((i : Int) + (j : Int)) = (i : Int) + (j : Int) := by simp [IntKind.wrap, IntKind.bits, IntKind.signed]; omega
      have i3 : IntKind.i64.wrap (((i : Int) + (j : Int)) / 2) = (h : Int) := by rw [IntKind.wrap_i64]; omega
      have c1 := HT.out.cell (t := h) (by omega)
      have c2 := HT.out.cell (t := m) hmn
      have HC := Lib.hid (fun q => HT.out.cmp (s := m) (t := h) hmn (by omega) q)
      have F1 := Lib.hid (HT.out.fit h (by omega))
      have a1 : (m : Int) < (n : Int) := by omega
      have a2 : (h : Int) < (n : Int) := by omega
      clear hh
      by_cases hcv : cmpV (K (f h).toNat) (K (f m).toNat) < 0
      · have hcb : decide (cmpV (K (f h).toNat) (K (f m).toNat) < 0) = true := by simp [hcv]
        go_wp2_with fail
        go_quiet (first | (go_at_call 56; with_reducible exact HC.out _))
        have HT2 := Lib.hid (HT.out.drewN nq)
        clear HT HC c1 c2
        obtain ⟨Wq, hWq⟩ : ∃ Wq, Wq = wr.drewN nq := ⟨_, rfl⟩
        rw [← hWq] at HT2 ⊢
        clear hWq
        go_wp2_with fail
        go_roundw
        case rel =>
          refine ⟨i, h, rfl, by go_num, by omega, by omega, by omega, HT2.out, HL.out, (fun t t1 t2 => ?_)⟩
          have q1 := (key_lt (K := K) F1.out.1 (HO.out h (by omega) (by omega)) FM.out.2).2 (cmpV_neg.1 hcv)
          have q2 := HV.out.le (s := h) (t := t) (by omega) (by omega) (by omega)
          omega
        case measure => simp [intOf]; omega
      · have hcb : decide (cmpV (K (f h).toNat) (K (f m).toNat) < 0) = false := by simp [hcv]
        have hcc : 0 ≤ cmpV (K (f h).toNat) (K (f m).toNat) := by omega
        go_wp2_with fail
        go_quiet (first | (go_at_call 56; with_reducible exact HC.out _))
        have HT2 := Lib.hid (HT.out.drewN nq)
        clear HT HC c1 c2
        obtain ⟨Wq, hWq⟩ : ∃ Wq, Wq = wr.drewN nq := ⟨_, rfl⟩
        rw [← hWq] at HT2 ⊢
        clear hWq
        go_wp2_with fail
        go_roundw
        case rel =>
          refine ⟨h + 1, j, by go_num, rfl, by omega, by omega, jc, HT2.out, (fun t t1 t2 => ?_), HU.out⟩
          have q1 := (key_gt (K := K) F1.out.1 (HO.out h (by omega) (by omega)) FM.out.2).2 (fun q => by have := cmpV_neg.2 q; omega)
          have q2 := HV.out.le (s := t) (t := h) (by omega) (by omega) (by omega)
          omega
        case measure => simp [intOf]; omega
    · have hij : i = j := by omega
      subst hij
      clear hlt ij
      obtain ⟨wo, hwo⟩ : ∃ wo, wo = wr := ⟨_, rfl⟩
      rw [← hwo] at HT ⊢
      clear hwo
      go_wp2_with fail
      go_loopw [17] (fun vk wr => ∃ k : Nat, vk = .int .i64 k ∧ i ≤ k ∧ k ≤ m ∧ SW w b n rb g K (ins f m k) wr) (fun vk _ => (intOf vk).toNat)
      case atStart => exact ⟨m, rfl, jc, Nat.le_refl _, by rw [ins_start]; exact HT.out⟩
      case round =>
        obtain ⟨k, rfl, ak, kp, hX⟩ := hrel
        have HX := Lib.hid hX
        clear hX
        by_cases hlt : i < k
        · obtain ⟨p, rfl⟩ : ∃ p, k = p + 1 := ⟨k - 1, by omega⟩
          have hwp : IntKind.i64.wrap (p : Int) = (p : Int) := by rw [IntKind.wrap_i64]; omega
          have c1 := HX.out.cell (t := p) (by omega)
          have c2 := HX.out.cell (t := p + 1) (by omega)
          have e1 := HX.out.free (t := p) (by omega)
          have e2 := HX.out.free (t := p + 1) (by omega)
          have jz : (p : Int) + 1 < (n : Int) := by omega
          have jz1 : (p : Int) < (n : Int) := by omega
          have p0 : (0 : Int) ≤ (p : Int) + 1 := by omega
          have e0 : ((p : Int) + 1).toNat = p + 1 := by omega
          have hltz : (i : Int) < (p : Int) + 1 := by omega
          go_wp2_with fail
          go_region
          all_goals
            go_wp2_with fail
            go_roundw
            case rel => exact ⟨p, by go_num, by omega, by omega, by rw [← ins_step f (by omega)]; exact HX.out.swp (by omega) (by omega) (by omega)⟩
            case measure => simp [intOf]
        · have hke : k = i := by omega
          subst hke
          have hltz : ¬ (k : Int) < (k : Int) := by omega
          go_wp2_with fail
          refine bodyPost_ret (results_none rfl _ _ _) rfl ?_
          have hm := HM.out
          rw [hm]
          exact ⟨rfl, _, HX.out, mix_ins f mi jc hmn, ins_up HV.out mi jc HL.out HU.out⟩
end Go.Proofs.Ytbcdfkcgcaifjaa
