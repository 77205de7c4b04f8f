/- Contracts: slices.swapRangeCmpFunc and slices.rotateCmpFunc. -/
import Derived.Test.YtklaonoekmhakaaGreatSoCmp
namespace Go.Proofs.YtklaonoekmhakaaGreat
open Go.RowKit
variable {w W : World} {b n rb g : Nat} {K f : Nat → Int}

theorem wrap_add {a k : Nat} (h : a + k ≤ 4000000) : IntKind.i64.wrap ((a : Int) + (k : Int)) = ((a + k : Nat) : Int) := by rw [IntKind.wrap_i64]; omega

set_option maxHeartbeats 1000000 in
theorem swr_any (HS : SW w b n rb g K f W) (cap a c k : Nat) (cmp : Value) (h1 : a + k ≤ c) (h2 : c + k ≤ n) :
    Calls Tryz.prog 165 #[.slice (some ⟨b, 0, none⟩) n cap, .int .i64 a, .int .i64 c, .int .i64 k, cmp] W fun e w' => e = .returned (.tuple #[]) ∧ SW w b n rb g K (swr f a c k) w' := by
  have H0 := Lib.hid HS
  clear HS
  go_enter Tryz.func165, Tryz.ntmps165
  go_wp2_with fail
  go_loopw [10] (fun i wr => ∃ t : Nat, t ≤ k ∧ i = .int .i64 t ∧ SW w b n rb g K (swr f a c t) wr) (fun i _ => k - (intOf i).toNat)
  case atStart => exact ⟨0, Nat.zero_le _, rfl, by rw [swr_start]; exact H0.out⟩
  case round =>
    obtain ⟨t, ht, rfl, hS⟩ := hrel
    have HS := Lib.hid hS
    have hsm := hS.small
    clear hS
    by_cases hlt : t < k
    · have c1 := HS.out.cell (t := a + t) (by omega)
      have c2 := HS.out.cell (t := c + t) (by omega)
      have e1 := HS.out.free (t := a + t) (by omega)
      have e2 := HS.out.free (t := c + t) (by omega)
      have w1 := wrap_add (a := a) (k := t) (by omega)
      have w2 := wrap_add (a := c) (k := t) (by omega)
      go_wp2_with fail
      go_region
      all_goals
        go_wp2_with fail
        go_roundw
        case rel => exact ⟨t + 1, by omega, by go_num, by rw [← swr_step f (by omega)]; exact HS.out.swp (by omega) (by omega) (by omega)⟩
        case measure => simp [intOf]; omega
    · have hke : t = k := by omega
      subst hke
      go_wp2_with fail
      go_end0
      exact ⟨rfl, HS.out⟩

set_option maxHeartbeats 1000000 in
theorem rot_any (HS : SW w b n rb g K f W) (cap a m c : Nat) (cmp : Value) (h1 : a < m) (h2 : m < c) (h3 : c ≤ n) :
    Calls Tryz.prog 164 #[.slice (some ⟨b, 0, none⟩) n cap, .int .i64 a, .int .i64 m, .int .i64 c, cmp] W fun e w' => e = .returned (.tuple #[]) ∧ SW w b n rb g K (rot f a m c) w' := by
  have H0 := Lib.hid HS
  have hsm := HS.small
  clear HS
  have i1 : IntKind.i64.wrap ((m : Int) - (a : Int)) = ((m - a : Nat) : Int) := by rw [IntKind.wrap_i64]; omega
  have i2 : IntKind.i64.wrap ((c : Int) - (m : Int)) = ((c - m : Nat) : Int) := by rw [IntKind.wrap_i64]; omega
  go_enter Tryz.func164, Tryz.ntmps164
  go_wp2_with fail
  go_loopw [10, 11] (fun vi vj wr => ∃ (i j : Nat) (h : Nat → Int), vi = .int .i64 i ∧ vj = .int .i64 j ∧ 0 < i ∧ i ≤ m ∧ 0 < j ∧ m + j ≤ n ∧ SW w b n rb g K h wr ∧ Hid (rot h (m - i) m (m + j) = rot f a m c)) (fun vi vj _ => (intOf vi).toNat + (intOf vj).toNat)
  case atStart => exact ⟨m - a, c - m, f, rfl, rfl, by omega, by omega, by omega, by omega, H0.out, by show rot _ _ _ _ = _; rw [show m - (m - a) = a by omega, show m + (c - m) = c by omega]⟩
  case round =>
    obtain ⟨i, j, h, rfl, rfl, i0, im, j0, jn, hS, HR⟩ := hrel
    have HS := Lib.hid hS
    clear hS i1 i2
    by_cases hne : i = j
    · subst hne
      have i3 : IntKind.i64.wrap ((m : Int) - (i : Int)) = ((m - i : Nat) : Int) := by rw [IntKind.wrap_i64]; omega
      go_wp2_with fail
      refine (swr_any HS.out cap (m - i) m i cmp (by omega) (by omega)).mono ?_
      rintro e w1 ⟨rfl, hS1⟩
      go_wp2_with fail
      go_end0
      exact ⟨rfl, by rw [← HR.out, ← rot_same h im]; exact hS1⟩
    · have hnz : ¬ (i : Int) = (j : Int) := by omega
      by_cases hlt : j < i
      · have i3 : IntKind.i64.wrap ((m : Int) - (i : Int)) = ((m - i : Nat) : Int) := by rw [IntKind.wrap_i64]; omega
        have i4 : IntKind.i64.wrap ((i : Int) - (j : Int)) = ((i - j : Nat) : Int) := by rw [IntKind.wrap_i64]; omega
        have hgt : (j : Int) < (i : Int) := by omega
        go_wp2_with fail
        refine (swr_any HS.out cap (m - i) m j cmp (by omega) (by omega)).mono ?_
        rintro e w1 ⟨rfl, hS1⟩
        have HS1 := Lib.hid hS1
        clear hS1
        go_wp2_with fail
        go_roundw
        case rel => exact ⟨i - j, j, _, rfl, rfl, by omega, by omega, by omega, by omega, HS1.out, by show rot _ _ _ _ = _; rw [rot_more h im hlt]; exact HR.out⟩
        case measure => simp [intOf]; omega
      · have i3 : IntKind.i64.wrap ((m : Int) - (i : Int)) = ((m - i : Nat) : Int) := by rw [IntKind.wrap_i64]; omega
        have i5 : IntKind.i64.wrap ((m : Int) + (j : Int)) = (m : Int) + (j : Int) := by rw [IntKind.wrap_i64]; omega
        have i6 : IntKind.i64.wrap ((m : Int) + (j : Int) - (i : Int)) = ((m + j - i : Nat) : Int) := by rw [IntKind.wrap_i64]; omega
        have i4 : IntKind.i64.wrap ((j : Int) - (i : Int)) = ((j - i : Nat) : Int) := by rw [IntKind.wrap_i64]; omega
        have hgt : ¬ (j : Int) < (i : Int) := by omega
        go_wp2_with fail
        refine (swr_any HS.out cap (m - i) (m + j - i) i cmp (by omega) (by omega)).mono ?_
        rintro e w1 ⟨rfl, hS1⟩
        have HS1 := Lib.hid hS1
        clear hS1
        go_wp2_with fail
        go_roundw
        case rel => exact ⟨i, j - i, _, rfl, rfl, by omega, by omega, by omega, by omega, HS1.out, by show rot _ _ _ _ = _; rw [rot_less h im (by omega)]; exact HR.out⟩
        case measure => simp [intOf]; omega
end Go.Proofs.YtklaonoekmhakaaGreat

namespace Go.Proofs.YtklaonoekmhakaaGreat
open Go.RowKit
variable {w W : World} {b n rb g : Nat} {K f : Nat → Int}

theorem ins_at (f : Nat → Int) (i j : Nat) : ins f i j j = f i := by unfold ins; rw [if_neg (by omega), if_pos rfl]
theorem ins_ahead (f : Nat → Int) {i j t : Nat} (h : t < j) : ins f i j t = f t := by unfold ins; rw [if_pos h]
theorem mix_less {n a i : Nat} {f h : Nat → Int} {b : Nat} (m : Mix n a i f h) (o : ∀ s t, a ≤ s → s < t → t < b → f s < f t) (hi : i < b) : h i = f i ∧ ∀ t, a ≤ t → t < i → h t < h i := by
  have e : h i = f i := m.out i (by omega)
  refine ⟨e, fun t t1 t2 => ?_⟩
  obtain ⟨s, s1, s2, s3⟩ := m.old t t1 t2
  rw [s3, e]; exact o s i s1 s2 hi

set_option maxHeartbeats 1000000 in
theorem ins_any (HS : SW w b n rb g K f W) (cap a c : Nat) (h1 : a ≤ c) (h2 : c ≤ n) (o : ∀ s t, a ≤ s → s < t → t < c → f s < f t) :
    Calls Tryz.prog 160 #[.slice (some ⟨b, 0, none⟩) n cap, .int .i64 a, .int .i64 c, .func (.func 153) #[] #[.pointer (some ⟨rb, 0, none⟩)]] W fun e w' => e = .returned (.tuple #[]) ∧ ∃ h, SW w b n rb g K h w' ∧ Mix n a c f h ∧ Up (key n K) h a c := by
  have H0 := Lib.hid HS
  have HO := Lib.hid o
  have hsm := HS.small
  clear HS o
  go_enter Tryz.func160, Tryz.ntmps160
  go_wp2_with fail
  go_loopw [8] (fun vi wr => ∃ (i : Nat) (h : Nat → Int), vi = .int .i64 i ∧ a < i ∧ (i ≤ c ∨ i = a + 1) ∧ SW w b n rb g K h wr ∧ Hid (Mix n a i f h ∧ Up (key n K) h a i)) (fun vi _ => c + 1 - (intOf vi).toNat)
  case atStart => exact ⟨a + 1, f, by go_num, by omega, by omega, H0.out, ⟨Mix.refl _ _ _ _, fun s t s1 s2 s3 => by omega⟩⟩
  case round =>
    obtain ⟨i, h, rfl, ai, ic, hS, HM⟩ := hrel
    have HS := Lib.hid hS
    clear hS
    by_cases hlt : i < c
    · have hltz : (i : Int) < (c : Int) := by omega
      obtain ⟨wo, hwo⟩ : ∃ wo, wo = wr := ⟨_, rfl⟩
      rw [← hwo] at HS ⊢
      clear hwo
      go_wp2_with fail
      go_loopw [9] (fun vj wr => ∃ j : Nat, vj = .int .i64 j ∧ a ≤ j ∧ j ≤ i ∧ SW w b n rb g K (ins h i j) wr ∧ Hid (∀ t, j ≤ t → t < i → key n K (h i) < key n K (h t))) (fun vj _ => (intOf vj).toNat)
      case atStart => exact ⟨i, rfl, by omega, Nat.le_refl _, by rw [ins_start]; exact HS.out, fun t t1 t2 => by omega⟩
      case round =>
        obtain ⟨j, rfl, aj, ji, hT, HL⟩ := hrel
        have HT := Lib.hid hT
        clear hT
        have HE := Lib.hid (mix_less HM.out.1 HO.out hlt)
        by_cases hja : a < j
        · obtain ⟨p, rfl⟩ : ∃ p, j = p + 1 := ⟨j - 1, by omega⟩
          have hwp : IntKind.i64.wrap (p : Int) = (p : Int) := by rw [IntKind.wrap_i64]; omega
          have jz : (p : Int) + 1 < (n : Int) := by omega
          have jz1 : (p : Int) < (n : Int) := by omega
          have hjaz : (a : Int) < (p : Int) + 1 := by omega
          have p0 : (0 : Int) ≤ (p : Int) + 1 := by omega
          have e0 : ((p : Int) + 1).toNat = p + 1 := by omega
          have c1 := HT.out.cell (t := p + 1) (by omega)
          have c2 := HT.out.cell (t := p) (by omega)
          have e1 := HT.out.free (t := p + 1) (by omega)
          have e2 := HT.out.free (t := p) (by omega)
          have hc := fun q => HT.out.cmp (s := p + 1) (t := p) (by omega) (by omega) q
          have v1 : ins h i (p + 1) (p + 1) = h i := ins_at _ _ _
          have v2 : ins h i (p + 1) p = h p := ins_ahead _ (by omega)
          have F1 := Lib.hid (HS.out.fit p (by omega))
          have F2 := Lib.hid (HS.out.fit i (by omega))
          rw [v1] at c1 hc
          rw [v2] at c2 hc
          have V := Lib.hid (And.intro v1 v2)
          have HC := Lib.hid hc
          clear v1 v2 hc
          by_cases hcv : cmpV (K (h p).toNat) (K (h i).toNat) < 0
          · go_wp2_with fail
            go_quiet (first | (go_at_call 153; with_reducible exact HC.out _))
            have HT2 := Lib.hid (HT.out.drewN nq)
            clear HT HC c1 c2 e1 e2
            obtain ⟨Wq, hWq⟩ : ∃ Wq, Wq = wr.drewN nq := ⟨_, rfl⟩
            rw [← hWq] at HT2 ⊢
            clear hWq
            have c1 := HT2.out.cell (t := p + 1) (by omega)
            have c2 := HT2.out.cell (t := p) (by omega)
            have e1 := HT2.out.free (t := p + 1) (by omega)
            have e2 := HT2.out.free (t := p) (by omega)
            go_wp2_with fail
            go_region
            all_goals
              go_wp2_with fail
              go_roundw
              case rel => exact ⟨p, by go_num, by omega, by omega, by rw [← ins_step h (by omega)]; exact HT2.out.swp (by omega) (by omega) (by omega), fun t t1 t2 => by
                by_cases et : t = p
                · subst et
                  exact (key_lt F1.out.1 (HE.out.2 t (by omega) (by omega)) F2.out.2).2 (cmpV_neg.1 hcv)
                · exact HL.out t (by omega) t2⟩
              case measure => simp [intOf]
          · go_wp2_with fail
            go_quiet (first | (go_at_call 153; with_reducible exact HC.out _))
            have HT2 := Lib.hid (HT.out.drewN nq)
            clear HT HC c1 c2 e1 e2
            obtain ⟨Wq, hWq⟩ : ∃ Wq, Wq = wr.drewN nq := ⟨_, rfl⟩
            rw [← hWq] at HT2 ⊢
            clear hWq
            go_wp2_with fail
            go_roundw
            case rel =>
              refine ⟨i + 1, ins h i (p + 1), by go_num, by omega, by omega, HT2.out, (HM.out.1.wide (Nat.le_refl _) (Nat.le_succ _)).trans (mix_ins h (by omega) ji (by omega)), ins_up HM.out.2 (by omega) ji (fun t t1 t2 => ?_) HL.out⟩
              have q1 := HM.out.2.le (s := t) (t := p) t1 (by omega) (by omega)
              have q2 := (key_gt (K := K) F1.out.1 (HE.out.2 p (by omega) (by omega)) F2.out.2).2 (fun q => by have := cmpV_neg.2 q; omega)
              omega
            case measure => simp [intOf]; omega
        · have hje : j = a := by omega
          subst hje
          have hjz : ¬ (j : Int) < (j : Int) := by omega
          go_wp2_with fail
          go_quiet (fail)
          have HT2 := Lib.hid (HT.out.drewN nq)
          clear HT
          obtain ⟨Wq, hWq⟩ : ∃ Wq, Wq = wr.drewN nq := ⟨_, rfl⟩
          rw [← hWq] at HT2 ⊢
          clear hWq
          go_wp2_with fail
          go_roundw
          case rel =>
            exact ⟨i + 1, ins h i j, by go_num, by omega, by omega, HT2.out, (HM.out.1.wide (Nat.le_refl _) (Nat.le_succ _)).trans (mix_ins h (by omega) ji (by omega)), ins_up HM.out.2 (by omega) ji (fun t t1 t2 => by omega) HL.out⟩
          case measure => simp [intOf]; omega
    · have hltz : ¬ (i : Int) < (c : Int) := by omega
      go_wp2_with fail
      go_end0
      refine ⟨rfl, h, HS.out, ?_, ?_⟩
      · by_cases e : i = c
        · rw [← e]; exact HM.out.1
        · refine ⟨fun t ht => ?_, fun t t1 t2 => by omega, HM.out.1.sum⟩
          by_cases et : t = a
          · obtain ⟨s, s1, s2, s3⟩ := HM.out.1.old t (by omega) (by omega)
            rw [s3, show s = t by omega]
          · exact HM.out.1.out t (by omega)
      · exact HM.out.2.sub (Nat.le_refl _) (by omega)
end Go.Proofs.YtklaonoekmhakaaGreat

namespace Go.Proofs.YtklaonoekmhakaaGreat
open Go.RowKit
variable {w W : World} {b n rb g : Nat} {K f : Nat → Int}

/-- what a merge of two rows leaves -/
def Merged (w : World) (b n rb g : Nat) (K f : Nat → Int) (a c : Nat) (e : Ending) (w' : World) : Prop := e = .returned (.tuple #[]) ∧ ∃ h, SW w b n rb g K h w' ∧ Mix n a c f h ∧ Up (key n K) h a c

set_option maxRecDepth 1000000 in
set_option maxHeartbeats 1000000 in
theorem sym_one (HS : SW w b n rb g K f W) (cap a m c : Nat) (hm : m = a + 1) (h1 : m < c) (h2 : c ≤ n) (v : Up (key n K) f m c) (o : ∀ t, m ≤ t → t < c → f a < f t) :
    Calls Tryz.prog 161 #[.slice (some ⟨b, 0, none⟩) n cap, .int .i64 a, .int .i64 m, .int .i64 c, .func (.func 153) #[] #[.pointer (some ⟨rb, 0, none⟩)]] W (Merged w b n rb g K f a c) := by
  have H0 := Lib.hid HS
  have HO := Lib.hid o
  have HV := Lib.hid v
  have hsm := HS.small
  have FA := Lib.hid (HS.fit a (by omega))
  have i0 : IntKind.i64.wrap ((m : Int) - (a : Int)) = 1 := by rw [IntKind.wrap_i64]; omega
  have HM := Lib.hid hm
  clear HS o v hm
  go_enter Tryz.func161, Tryz.ntmps161
  go_wp2_with fail
  go_loopw [10, 11] (fun vi vj wr => ∃ i j : Nat, vi = .int .i64 i ∧ vj = .int .i64 j ∧ m ≤ i ∧ i ≤ j ∧ j ≤ c ∧ SW w b n rb g K f wr ∧ Hid (∀ t, m ≤ t → t < i → key n K (f t) < key n K (f a)) ∧ Hid (∀ t, j ≤ t → t < c → key n K (f a) < key n K (f t))) (fun vi vj _ => (intOf vj).toNat - (intOf vi).toNat)
  case atStart => exact ⟨m, c, rfl, rfl, Nat.le_refl _, by omega, Nat.le_refl _, H0.out, (fun t t1 t2 => by omega), (fun t t1 t2 => by omega)⟩
  case round =>
    obtain ⟨i, j, rfl, rfl, mi, ij, jc, hT, HL, HU⟩ := hrel
    have HT := Lib.hid hT
    clear hT i0
    by_cases hlt : i < j
    · obtain ⟨h, hh⟩ : ∃ h, h = (i + j) / 2 := ⟨_, rfl⟩
      have ih : i ≤ h := by omega
      have hj : h < j := by omega
      have i1 : IntKind.i64.wrap ((i : Int) + (j : Int)) = (i : Int) + (j : Int) := by rw [IntKind.wrap_i64]; omega
      have i2 : IntKind.u64.wrap ((i : Int) + (j : Int)) = (i : Int) + (j : Int) := by simp [IntKind.wrap, IntKind.bits, IntKind.signed]; omega
      have i3 : IntKind.i64.wrap (((i : Int) + (j : Int)) / 2) = (h : Int) := by rw [IntKind.wrap_i64]; omega
      have c1 := HT.out.cell (t := h) (by omega)
      have c2 := HT.out.cell (t := a) (by have := HM.out; omega)
      have HC := Lib.hid (fun q => HT.out.cmp (s := h) (t := a) (by omega) (by have := HM.out; omega) q)
      have F1 := Lib.hid (HT.out.fit h (by omega))
      have HA : Hid (a < n) := by have := HM.out; show a < n; omega
      have a1 : (a : Int) < (n : Int) := by have := HA.out; omega
      have a2 : (h : Int) < (n : Int) := by omega
      clear hh
      by_cases hcv : cmpV (K (f a).toNat) (K (f h).toNat) < 0
      · go_wp2_with fail
        go_quiet (first | (go_at_call 153; with_reducible exact HC.out _))
        have HT2 := Lib.hid (HT.out.drewN nq)
        clear HT HC c1 c2
        obtain ⟨Wq, hWq⟩ : ∃ Wq, Wq = wr.drewN nq := ⟨_, rfl⟩
        rw [← hWq] at HT2 ⊢
        clear hWq
        go_wp2_with fail
        go_roundw
        case rel =>
          refine ⟨h + 1, j, by go_num, rfl, by omega, by omega, jc, HT2.out, (fun t t1 t2 => ?_), HU.out⟩
          have q1 := (key_lt (K := K) FA.out.1 (HO.out h (by omega) (by omega)) F1.out.2).2 (cmpV_neg.1 hcv)
          have q2 := HV.out.le (s := t) (t := h) (by omega) (by omega) (by omega)
          omega
        case measure => simp [intOf]; omega
      · go_wp2_with fail
        go_quiet (first | (go_at_call 153; with_reducible exact HC.out _))
        have HT2 := Lib.hid (HT.out.drewN nq)
        clear HT HC c1 c2
        obtain ⟨Wq, hWq⟩ : ∃ Wq, Wq = wr.drewN nq := ⟨_, rfl⟩
        rw [← hWq] at HT2 ⊢
        clear hWq
        go_wp2_with fail
        go_roundw
        case rel =>
          refine ⟨i, h, rfl, by go_num, by omega, by omega, by omega, HT2.out, HL.out, (fun t t1 t2 => ?_)⟩
          have q1 := (key_gt (K := K) FA.out.1 (HO.out h (by omega) (by omega)) F1.out.2).2 (fun q => by have := cmpV_neg.2 q; omega)
          have q2 := HV.out.le (s := h) (t := t) (by omega) (by omega) (by omega)
          omega
        case measure => simp [intOf]; omega
    · have hij : i = j := by omega
      subst hij
      clear hlt ij
      have i4 : IntKind.i64.wrap ((i : Int) - 1) = ((i - 1 : Nat) : Int) := by have := HM.out; rw [IntKind.wrap_i64]; omega
      obtain ⟨ip, hip⟩ : ∃ ip, ip = i - 1 := ⟨_, rfl⟩
      rw [← hip] at i4
      have HP := Lib.hid hip
      have hai : a ≤ ip := by have := HM.out; omega
      have hpn : ip + 1 ≤ n := by omega
      clear hip
      obtain ⟨wo, hwo⟩ : ∃ wo, wo = wr := ⟨_, rfl⟩
      rw [← hwo] at HT ⊢
      clear hwo
      go_wp2_with fail
      go_loopw [13] (fun vk wr => ∃ k : Nat, vk = .int .i64 k ∧ a ≤ k ∧ k ≤ ip ∧ SW w b n rb g K (outs f a k) wr) (fun vk _ => ip - (intOf vk).toNat)
      case atStart => exact ⟨a, rfl, Nat.le_refl _, hai, by rw [outs_start]; exact HT.out⟩
      case round =>
        obtain ⟨k, rfl, ak, kp, hX⟩ := hrel
        have HX := Lib.hid hX
        clear hX
        by_cases hlt : k < ip
        · have c1 := HX.out.cell (t := k) (by omega)
          have c2 := HX.out.cell (t := k + 1) (by omega)
          have e1 := HX.out.free (t := k) (by omega)
          have e2 := HX.out.free (t := k + 1) (by omega)
          have jz : (k : Int) + 1 < (n : Int) := by omega
          have jz1 : (k : Int) < (n : Int) := by omega
          have p0 : (0 : Int) ≤ (k : Int) + 1 := by omega
          have e0 : ((k : Int) + 1).toNat = k + 1 := by omega
          have w1 : IntKind.i64.wrap ((k : Int) + 1) = (k : Int) + 1 := by rw [IntKind.wrap_i64]; omega
          have hltz : (k : Int) < (ip : Int) := by omega
          go_wp2_with fail
          go_region
          all_goals
            go_wp2_with fail
            go_roundw
            case rel => exact ⟨k + 1, by go_num, by omega, by omega, by rw [← outs_step f ak]; exact HX.out.swp (by omega) (by omega) (by omega)⟩
            case measure => simp [intOf]; omega
        · have hke : k = ip := by omega
          subst hke
          go_wp2_with fail
          refine bodyPost_ret (results_none rfl _ _ _) rfl ?_
          have hm := HM.out; have hp := HP.out
          refine ⟨rfl, _, HX.out, mix_outs f hai (by omega) h2, ?_⟩
          rw [hp]
          refine outs_up (f := f) (a := a) (i := i) (b := c) (by rw [← hm]; exact HV.out) (by omega) (by omega) (fun t t1 t2 => HL.out t (by omega) t2) HU.out
set_option maxRecDepth 1000000 in
set_option maxHeartbeats 1000000 in
theorem sym_two (HS : SW w b n rb g K f W) (cap a m c : Nat) (hm : c = m + 1) (ha : a < m) (hn : m - a ≠ 1) (h2 : c ≤ n) (v : Up (key n K) f a m) (o : ∀ t, a ≤ t → t < m → f t < f m) :
    Calls Tryz.prog 161 #[.slice (some ⟨b, 0, none⟩) n cap, .int .i64 a, .int .i64 m, .int .i64 c, .func (.func 153) #[] #[.pointer (some ⟨rb, 0, none⟩)]] W (Merged w b n rb g K f a c) := by
  have H0 := Lib.hid HS
  have HO := Lib.hid o
  have HV := Lib.hid v
  have hsm := HS.small
  have FM := Lib.hid (HS.fit m (by omega))
  have i0 : IntKind.i64.wrap ((c : Int) - (m : Int)) = 1 := by rw [IntKind.wrap_i64]; omega
  have i9 : IntKind.i64.wrap ((m : Int) - (a : Int)) = ((m - a : Nat) : Int) := by rw [IntKind.wrap_i64]; omega
  obtain ⟨d, hd⟩ : ∃ d, d = m - a := ⟨_, rfl⟩
  rw [← hd] at i9 hn
  have i8 : ((d : Int) == 1) = false := by simp; omega
  have hmn : m < n := by omega
  have HM := Lib.hid hm
  clear HS o v hm hd hn
  go_enter Tryz.func161, Tryz.ntmps161
  go_wp2_with fail
  go_loopw [14, 15] (fun vi vj wr => ∃ i j : Nat, vi = .int .i64 i ∧ vj = .int .i64 j ∧ a ≤ i ∧ i ≤ j ∧ j ≤ m ∧ SW w b n rb g K f wr ∧ Hid (∀ t, a ≤ t → t < i → key n K (f t) < key n K (f m)) ∧ Hid (∀ t, j ≤ t → t < m → key n K (f m) < key n K (f t))) (fun vi vj _ => (intOf vj).toNat - (intOf vi).toNat)
  case atStart => exact ⟨a, m, rfl, rfl, Nat.le_refl _, by omega, Nat.le_refl _, H0.out, (fun t t1 t2 => by omega), (fun t t1 t2 => by omega)⟩
  case round =>
    obtain ⟨i, j, rfl, rfl, mi, ij, jc, hT, HL, HU⟩ := hrel
    have HT := Lib.hid hT
    clear hT i0 i9 i8
    by_cases hlt : i < j
    · obtain ⟨h, hh⟩ : ∃ h, h = (i + j) / 2 := ⟨_, rfl⟩
      have ih : i ≤ h := by omega
      have hj : h < j := by omega
      have i1 : IntKind.i64.wrap ((i : Int) + (j : Int)) = (i : Int) + (j : Int) := by rw [IntKind.wrap_i64]; omega
      have i2 : IntKind.u64.wrap ((i : Int) + (j : Int)) = (i : Int) + (j : Int) := by simp [IntKind.wrap, IntKind.bits, IntKind.signed]; omega
      have i3 : IntKind.i64.wrap (((i : Int) + (j : Int)) / 2) = (h : Int) := by rw [IntKind.wrap_i64]; omega
      have c1 := HT.out.cell (t := h) (by omega)
      have c2 := HT.out.cell (t := m) hmn
      have HC := Lib.hid (fun q => HT.out.cmp (s := m) (t := h) hmn (by omega) q)
      have F1 := Lib.hid (HT.out.fit h (by omega))
      have a1 : (m : Int) < (n : Int) := by omega
      have a2 : (h : Int) < (n : Int) := by omega
      clear hh
      by_cases hcv : cmpV (K (f h).toNat) (K (f m).toNat) < 0
      · have hcb : decide (cmpV (K (f h).toNat) (K (f m).toNat) < 0) = true := by simp [hcv]
        go_wp2_with fail
        go_quiet (first | (go_at_call 153; with_reducible exact HC.out _))
        have HT2 := Lib.hid (HT.out.drewN nq)
        clear HT HC c1 c2
        obtain ⟨Wq, hWq⟩ : ∃ Wq, Wq = wr.drewN nq := ⟨_, rfl⟩
        rw [← hWq] at HT2 ⊢
        clear hWq
        go_wp2_with fail
        go_roundw
        case rel =>
          refine ⟨i, h, rfl, by go_num, by omega, by omega, by omega, HT2.out, HL.out, (fun t t1 t2 => ?_)⟩
          have q1 := (key_lt (K := K) F1.out.1 (HO.out h (by omega) (by omega)) FM.out.2).2 (cmpV_neg.1 hcv)
          have q2 := HV.out.le (s := h) (t := t) (by omega) (by omega) (by omega)
          omega
        case measure => simp [intOf]; omega
      · have hcb : decide (cmpV (K (f h).toNat) (K (f m).toNat) < 0) = false := by simp [hcv]
        have hcc : 0 ≤ cmpV (K (f h).toNat) (K (f m).toNat) := by omega
        go_wp2_with fail
        go_quiet (first | (go_at_call 153; with_reducible exact HC.out _))
        have HT2 := Lib.hid (HT.out.drewN nq)
        clear HT HC c1 c2
        obtain ⟨Wq, hWq⟩ : ∃ Wq, Wq = wr.drewN nq := ⟨_, rfl⟩
        rw [← hWq] at HT2 ⊢
        clear hWq
        go_wp2_with fail
        go_roundw
        case rel =>
          refine ⟨h + 1, j, by go_num, rfl, by omega, by omega, jc, HT2.out, (fun t t1 t2 => ?_), HU.out⟩
          have q1 := (key_gt (K := K) F1.out.1 (HO.out h (by omega) (by omega)) FM.out.2).2 (fun q => by have := cmpV_neg.2 q; omega)
          have q2 := HV.out.le (s := t) (t := h) (by omega) (by omega) (by omega)
          omega
        case measure => simp [intOf]; omega
    · have hij : i = j := by omega
      subst hij
      clear hlt ij
      obtain ⟨wo, hwo⟩ : ∃ wo, wo = wr := ⟨_, rfl⟩
      rw [← hwo] at HT ⊢
      clear hwo
      go_wp2_with fail
      go_loopw [17] (fun vk wr => ∃ k : Nat, vk = .int .i64 k ∧ i ≤ k ∧ k ≤ m ∧ SW w b n rb g K (ins f m k) wr) (fun vk _ => (intOf vk).toNat)
      case atStart => exact ⟨m, rfl, jc, Nat.le_refl _, by rw [ins_start]; exact HT.out⟩
      case round =>
        obtain ⟨k, rfl, ak, kp, hX⟩ := hrel
        have HX := Lib.hid hX
        clear hX
        by_cases hlt : i < k
        · obtain ⟨p, rfl⟩ : ∃ p, k = p + 1 := ⟨k - 1, by omega⟩
          have hwp : IntKind.i64.wrap (p : Int) = (p : Int) := by rw [IntKind.wrap_i64]; omega
          have c1 := HX.out.cell (t := p) (by omega)
          have c2 := HX.out.cell (t := p + 1) (by omega)
          have e1 := HX.out.free (t := p) (by omega)
          have e2 := HX.out.free (t := p + 1) (by omega)
          have jz : (p : Int) + 1 < (n : Int) := by omega
          have jz1 : (p : Int) < (n : Int) := by omega
          have p0 : (0 : Int) ≤ (p : Int) + 1 := by omega
          have e0 : ((p : Int) + 1).toNat = p + 1 := by omega
          have hltz : (i : Int) < (p : Int) + 1 := by omega
          go_wp2_with fail
          go_region
          all_goals
            go_wp2_with fail
            go_roundw
            case rel => exact ⟨p, by go_num, by omega, by omega, by rw [← ins_step f (by omega)]; exact HX.out.swp (by omega) (by omega) (by omega)⟩
            case measure => simp [intOf]
        · have hke : k = i := by omega
          subst hke
          have hltz : ¬ (k : Int) < (k : Int) := by omega
          go_wp2_with fail
          refine bodyPost_ret (results_none rfl _ _ _) rfl ?_
          have hm := HM.out
          rw [hm]
          exact ⟨rfl, _, HX.out, mix_ins f mi jc hmn, ins_up HV.out mi jc HL.out HU.out⟩
end Go.Proofs.YtklaonoekmhakaaGreat
