/- The reference: Some, where what is asked may be. -/
import Derived.Test.YtbcdfkcgcaifjaaAlL
import Derived.Test.YtbcdfkcgcaifjaaAlE
namespace Go.Proofs.Ytbcdfkcgcaifjaa
open Go.RowKit

/-- so many places are ahead of this one -/
def Kp (p : Nat → Int) (m i k : Nat) : Prop := k ≤ m ∧ (∀ j, j < k → p j < i) ∧ (∀ j, k ≤ j → j < m → (i : Int) ≤ p j)
section
variable {p : Nat → Int} {n m i k : Nat}
theorem kp_hit (h : Kp p m i k) (hR : risesB p n m = true) (hk : k < m) (e : p k = i) : Kp p m (i + 1) (k + 1) ∧ inB p m (i : Int) = true := by
  refine ⟨⟨hk, fun j hj => ?_, fun j h1 h2 => ?_⟩, inB_iff.2 ⟨k, hk, e⟩⟩
  · by_cases q : j = k
    · subst q; omega
    · have := h.2.1 j (by omega); omega
  · have := rises_lt hR (show k < j by omega) h2; omega
theorem kp_miss (h : Kp p m i k) (hR : risesB p n m = true) (e : k < m → p k ≠ i) : Kp p m (i + 1) k ∧ inB p m (i : Int) = false := by
  have key : ∀ j, k ≤ j → j < m → (i : Int) < p j := fun j h1 h2 => by
    have h3 := h.2.2 k (Nat.le_refl _) (by omega)
    have h4 := e (by omega)
    by_cases q : j = k
    · subst q; omega
    · have := rises_lt hR (show k < j by omega) h2; omega
  refine ⟨⟨h.1, fun j hj => by have := h.2.1 j hj; omega, fun j h1 h2 => by have := key j h1 h2; omega⟩, ?_⟩
  cases q : inB p m (i : Int) with
  | false => rfl
  | true =>
    obtain ⟨j, j1, j2⟩ := inB_iff.1 q
    by_cases q2 : j < k
    · have := h.2.1 j q2; omega
    · have := key j (by omega) j1; omega
theorem kp_end (h : Kp p m n k) (hR : risesB p n m = true) : k = m := by
  apply Classical.byContradiction; intro q
  have h1 := h.2.2 k (Nat.le_refl _) (by have := h.1; omega)
  have h2 := rises_in hR (show k < m by have := h.1; omega)
  omega
end
theorem put_base {f p v : Nat → Int} {n m : Nat} (h : risesB p n m = true) (t : Nat) : putV (othV f p m) p v m t = putV f p v m t := by
  rcases putV_or (g := othV f p m) (v := v) h t with ⟨i, i1, i2, e⟩ | ⟨q, e⟩
  · rw [e, putV_in h i1 i2.symm]
  · rw [e, putV_out q]; unfold othV; rw [q]; simp

theorem someE_of {price : Int} {f p : Nat → Int} {n m : Nat} (h1 : ¬ price < 0) (h2 : 0 < m) (hR : risesB p n m = true) (hp : ∀ t, t < n → 0 ≤ f t) :
    someE price f n p m = if leaveE price (othV f p m) n ≠ 0 then 3 else if leaveV price (othV f p m) n < 0 then 1 else outE (leaveV price (othV f p m) n) (picV f p) m := by
  unfold someE
  rw [if_neg]
  rintro (q | q | q)
  · exact h1 q
  · exact q ⟨h2, hR⟩
  · have := rises_in hR h2
    obtain ⟨t, t1, t2⟩ := minN_is f (n := n) (by omega)
    have := hp t t1; omega
def Sc13 (b : Nat) (s : Int) (a : Option Addr) (l c : Nat) (W : World) : Prop := W.cell? ⟨b, 0, none⟩ = some (.int .i64 s) ∧ W.cell? ⟨b, 1, none⟩ = some (.slice a l c)
theorem L3.sc {w W : World} {B q k : Nat} {vo : Value} {fp : Nat → Int} {m s : Int} {x : Option Addr} {l c : Nat} (h : L3 w B q k vo fp m s x l c W) : Sc13 q s x l c W := ⟨h.box.1.1, h.box.1.2.1⟩
theorem oth_am' {f : Nat → Int} (hf : Amounts f) (p : Nat → Int) (m : Nat) : Amounts (othV f p m) := fun t => by
  unfold othV; split
  · omega
  · exact hf t
theorem own_empty (W : World) (h : Nat → Int) : (W.alloc (.cells #[] 2)).ownsRow W.heap.size 2 1 (.slice (some ⟨W.heap.size, 0, none⟩) 0 0) 0 (valsTo h 0) :=
  ⟨rfl, .inr ⟨W.heap.size, 0, #[], rfl, Nat.le_refl _, heap_alloc_new W _, Nat.le_refl _, Nat.zero_le _, rfl, rfl⟩⟩
theorem size1' (w : World) (o : Obj) : (w.alloc o).heap.size = w.heap.size + 1 := by simp
set_option maxRecDepth 100000 in
set_option maxHeartbeats 16000000 in
theorem rsome_yes (price : Int) (f p : Nat → Int) (a c : Option Addr) (n m capa capc : Nat) (w : World) (hn : n ≤ 900) (hm : m ≤ 900) (hf : Amounts f) (ht : Am price) (h1 : ¬ price < 0) (h2 : 0 < m) (hp : ∀ t, t < n → 0 ≤ f t) (h : risesB p n m = true) (hA : Arg w a n f) (hC : Arg w c m p) :
    Calls Try.prog 11 #[.int .i64 price, .slice a n capa, .slice c m capc] w (RSPost w price f n p m) := by
  have z1 : decide (price < 0) = false := decide_eq_false h1
  have z2 : ((m : Int) == 0) = false := by simp; omega
  have HR := Lib.hid h
  have HA := Lib.hid (And.intro hA hC)
  have HPs := Lib.hid hp
  have HE := Lib.hid (someE_of h1 h2 h hp)
  have HOf := Lib.hid (fun W => of_any price W ht.1 ht.2)
  have HTp := Lib.hid ht
  clear h hA hC hp h1 ht
  go_enter Try.func11, Try.ntmps11
  go_wp2_with fail
  go_loop [8] (fun vi => ∃ k : Nat, k ≤ n ∧ vi = .int .i64 k) (fun vi => n - (intOf vi).toNat)
  case atStart => exact ⟨0, Nat.zero_le _, rfl⟩
  case round =>
    obtain ⟨k, hk, rfl⟩ := hrel
    by_cases hlt : k < n
    · obtain ⟨b, off, rfl, hr⟩ := HA.out.1 (by omega)
      have c1 := hr k hlt
      have c2 := HPs.out k hlt
      obtain ⟨x, hx⟩ : ∃ x, x = f k := ⟨_, rfl⟩
      rw [← hx] at c1 c2
      have c3 : ¬ x < 0 := by omega
      clear hr hx c2
      go_wp2_with fail
      go_round
      case rel => exact ⟨k + 1, by omega, by go_num⟩
      case measure => simp [intOf]; omega
    · obtain rfl : k = n := by omega
      clear hk hlt
      go_wp2_with fail
      go_loopw [9] (fun vi wr => ∃ j : Nat, j ≤ m ∧ vi = .int .i64 j ∧ Below w.heap.size w wr) (fun vi _ => m - (intOf vi).toNat)
      case atStart => exact ⟨0, Nat.zero_le _, rfl, Below.refl _ _⟩
      case round =>
        obtain ⟨j, hj, rfl, hB⟩ := hrel
        have HB := Lib.hid hB
        clear hB
        by_cases hlt : j < m
        · obtain ⟨b, off, rfl, hr⟩ := HA.out.2 (by omega)
          have c1 := kcell HB.out (hr j hlt)
          have hj0 : (0 : Int) ≤ (j : Int) := by omega
          have hjm : (j : Int) < (m : Int) := by omega
          have hin := rises_in HR.out hlt
          have z3 : decide (p j < 0) = false := decide_eq_false (by omega)
          have z4 : decide ((k : Int) ≤ p j) = false := decide_eq_false (by omega)
          obtain rfl | ⟨i, rfl⟩ : j = 0 ∨ ∃ i, j = i + 1 := by cases j with
            | zero => exact .inl rfl
            | succ i => exact .inr ⟨i, rfl⟩
          · rw [Nat.add_zero] at c1
            clear hr hin
            go_wp2_with fail
            go_quiet (fail)
            go_wp2_with fail
            go_roundw
            case rel => exact ⟨1, by omega, by go_num, blw HB.out _⟩
            case measure => simp [intOf]; omega
          · have d1 := kcell HB.out (hr i (by omega))
            have e0 : decide ((0 : Int) < ((i + 1 : Nat) : Int)) = true := decide_eq_true (by omega)
            have hwi : IntKind.i64.wrap (((i + 1 : Nat) : Int) - 1) = (i : Int) := by rw [IntKind.wrap_i64]; omega
            have hi0 : (0 : Int) ≤ (i : Int) := by omega
            have him : (i : Int) < (m : Int) := by omega
            have hpp := rises_lt HR.out (show i < i + 1 by omega) hlt
            have z5 : decide (p (i + 1) ≤ p i) = false := decide_eq_false (by show ¬ p (i + 1) ≤ p i; omega)
            clear hr hin hpp
            go_wp2_with fail
            go_quiet (fail)
            go_wp2_with fail
            go_roundw
            case rel => exact ⟨i + 2, by omega, by go_num, blw HB.out _⟩
            case measure => simp [intOf]; omega
        · obtain rfl : j = m := by omega
          clear hj hlt
          obtain ⟨w1, hw1⟩ : ∃ w1, w1 = wr := ⟨_, rfl⟩
          rw [← hw1] at HB ⊢
          clear hw1
          go_wp2_with fail
          have HL0 : Hid (L3 w (w1.heap.size + 1) w1.heap.size 0 (.slice (some ⟨w1.heap.size + 1, 0, none⟩) 0 0) (picV f p) (sumN (othV f p j) 0) 0 none 0 0 ((w1.alloc (.cells #[.int .i64 0, .slice none 0 0] 45)).alloc (.cells #[] 2))) := by
            have e1 := HB.out.size
            have own0 := own_empty (w1.alloc (.cells #[.int .i64 0, .slice none 0 0] 45)) (picV f p)
            rw [size1'] at own0
            exact ⟨up2 HB.out (up2 (boxed _ _) (boxed _ _)), own0, (Box.new w1 (ex_zero rfl 0)).below (boxed _ _), by omega, e1, by simp⟩
          obtain ⟨W0, hW0⟩ : ∃ W0, W0 = ((w1.alloc (.cells #[.int .i64 0, .slice none 0 0] 45)).alloc (.cells #[] 2)) := ⟨_, rfl⟩
          obtain ⟨B, hBe⟩ : ∃ B, B = w1.heap.size + 1 := ⟨_, rfl⟩
          obtain ⟨q, hqe⟩ : ∃ q, q = w1.heap.size := ⟨_, rfl⟩
          rw [← hW0, ← hBe, ← hqe] at HL0
          rw [← hW0, ← hBe, ← hqe]
          clear hW0 hBe hqe HB
          have HSm := Lib.hid (fun i (hi : i ≤ k) => sumN_small (oth_am' hf p j) (k := i) (by omega))
          have HFm := Lib.hid hf
          clear hf
          go_loopw [11, 12, 13] (fun vo vk vi wr => ∃ i t : Nat, i ≤ k ∧ vi = .int .i64 i ∧ vk = .int .i64 t ∧ Hid (Kp p j i t) ∧ ∃ s x l cc, L3 w B q t vo (picV f p) (sumN (othV f p j) i) s x l cc wr) (fun _ _ vi _ => k - (intOf vi).toNat)
          case atStart => exact ⟨0, 0, Nat.zero_le _, rfl, rfl, ⟨Nat.zero_le _, fun j hj => by omega, fun i _ hi => (rises_in HR.out hi).1⟩, 0, none, 0, 0, HL0.out⟩
          case round =>
            clear HL0
            obtain ⟨i, t, hi, rfl, rfl, HK, s, x, l, cc, hL⟩ := hrel
            have HL := Lib.hid hL
            clear hL
            by_cases hlt : i < k
            · obtain ⟨b1, off1, hab, hr⟩ := HA.out.1 (by omega)
              have c2 := kcell HL.out.bel (hr i hlt)
              have HSi := Lib.hid (HSm.out i hi)
              obtain ⟨f1, f2⟩ := HFm.out i
              have hi0 : (0 : Int) ≤ (i : Int) := by omega
              have hik : (i : Int) < (k : Int) := by omega
              by_cases hit : t < j ∧ p t = (i : Int)
              · obtain ⟨b2, off2, hac, hr2⟩ := HA.out.2 (by omega)
                have c1 := kcell HL.out.bel (hr2 t hit.1)
                rw [hit.2] at c1
                obtain ⟨hK, hin⟩ := kp_hit HK.out HR.out hit.1 hit.2
                have hpic : picV f p t = f i := by unfold picV; rw [hit.2]; rfl
                have hse : sumN (othV f p j) (i + 1) = sumN (othV f p j) i := by
                  show _ + othV f p j i = _
                  unfold othV; rw [if_pos hin]; omega
                have hL1 := HL.out
                rw [← hse] at hL1
                obtain ⟨X, hX⟩ : ∃ X, X = f i := ⟨_, rfl⟩
                rw [← hX] at c2 hpic
                obtain ⟨v', w', hrun, ho, hg⟩ := vals_app (W := wr.alloc (.cells #[.int .i64 X] 2)) (World.ownsRow.alloc hL1.own _) (by have := hit.1; omega) (Nat.le_trans hL1.bs (by simp)) 1 (a := some ⟨wr.heap.size, 0, none⟩) (n := 1) (f := fun _ => X) (fun _ => ⟨wr.heap.size, 0, rfl, fun k hk => by
                  rw [Nat.zero_add, (Has.fresh wr 2 _).cell]
                  obtain rfl : k = 0 := by omega
                  rfl⟩) (by decide) 22
                rw [← valsTo_join] at ho
                have HN := Lib.hid (hL1.more (o := .cells #[.int .i64 X] 2) (vo' := v') (w1 := w') (by rw [hpic]; exact ho) hg)
                have HRn := Lib.hid hrun
                have HK1 := Lib.hid hK
                have tz : (t : Int) < (j : Int) := by have := hit.1; omega
                have t0 : (0 : Int) ≤ (t : Int) := by omega
                have HT : Hid (t < j) := hit.1
                subst hab hac
                clear hr hr2 hK hin hpic hse hL1 hX hrun ho hg HK HL hit HSi
                go_wp2_with (first | (at_builtin; refine wpList_run (o := ⟨some 102, _, _, _, _, _⟩) rfl (.tmp 96) (.tmp 101) 22 rfl _ _ rfl rfl (S := fun u q => u = v' ∧ q = w') ⟨v', w', HRn.out, rfl, rfl⟩ ?_; rintro u q ⟨rfl, rfl⟩) | fail)
                go_roundw
                case rel => exact ⟨i + 1, t + 1, by omega, by go_num, by have := HT.out; go_num, HK1.out, s, x, l, cc, HN.out⟩
                case measure => simp [intOf]; omega
              · obtain ⟨hK, hin⟩ := kp_miss HK.out HR.out (fun h1 h2 => hit ⟨h1, h2⟩)
                have HK1 := Lib.hid hK
                have HS1 : Hid (sumN (othV f p j) (i + 1) = sumN (othV f p j) i + f i) := by
                  show sumN (othV f p j) i + othV f p j i = _
                  unfold othV; rw [if_neg (by rw [hin]; decide)]
                obtain ⟨V, hV⟩ : ∃ V, V = sumN (othV f p j) i := ⟨_, rfl⟩
                obtain ⟨X, hX⟩ : ∃ X, X = f i := ⟨_, rfl⟩
                rw [← hV] at HL HSi HS1
                rw [← hX] at c2 f1 f2 HS1
                obtain ⟨c0, c3, e0, e1⟩ := HL.out.box.1
                have t0 : (0 : Int) ≤ (t : Int) := by omega
                have key : ¬ (t : Int) < (j : Int) ∨ (∃ y b2 off2, (t : Int) < (j : Int) ∧ c = some ⟨b2, off2, none⟩ ∧ wr.cell? ⟨b2, off2 + t, none⟩ = some (.int .i64 y) ∧ (y == (i : Int)) = false) := by
                  by_cases q1 : t < j
                  · obtain ⟨b2, off2, hac, hr2⟩ := HA.out.2 (by omega)
                    exact .inr ⟨p t, b2, off2, by omega, hac, kcell HL.out.bel (hr2 t q1), by simp; exact fun q2 => hit ⟨q1, q2⟩⟩
                  · exact .inl (by omega)
                subst hab
                clear hr hK hin hV hX hit HK
                rcases key with k1 | ⟨y, b2, off2, k1, rfl, k2, k3⟩
                all_goals
                  go_wp2_with fail
                  go_region_with (first | (go_at_call 27; ((with_reducible refine (of_any X _ f1 f2).mono ?_); rintro e' w5 ⟨s1, a1, n1, p1, rfl, hE1, hb1⟩; have kT1 := Lib.hid (HL.out.drew.up hb1); have kE1 := Lib.hid hE1; clear hE1 hb1; obtain ⟨u0, u1, v0, v1⟩ := kT1.out.box.1)) | (go_at_call 26; ((with_reducible refine (plus_ex s s1 V X x a1 l n1 cc p1 _ kT1.out.ex kE1.out HSi.out (small64 f1 f2)).mono ?_); rintro e' w6 ⟨s2, a2, n2, p2, rfl, hE2, hb2⟩; have kT2 := Lib.hid (kT1.out.up hb2); have kE2 := Lib.hid hE2; clear hE2 hb2; obtain ⟨u2, u3, v2, v3⟩ := kT2.out.box.1)))
                  all_goals
                    go_wp2_with fail
                    go_roundw
                    case rel => exact ⟨i + 1, t, by omega, by go_num, rfl, HK1.out, s2, a2, n2, p2, by rw [HS1.out]; exact kT2.out.put kE2.out⟩
                    case measure => simp [intOf]; omega
            · obtain rfl : i = k := by omega
              obtain rfl : t = j := kp_end HK.out HR.out
              obtain ⟨g, cg, hvo, _, hig⟩ := vals_ints h2 HL.out.own
              subst hvo
              have hbd := sumN_bd (oth_am' HFm.out p t) i
              have hs1 := HSm.out i (Nat.le_refl _)
              have hs3 : Small (price - sumN (othV f p t) i) := by have := HTp.out; unfold Am at this; exact small126 ⟨by omega, by omega⟩
              have hlv : tellE (sumN (othV f p t) i) = 0 → leaveV price (othV f p t) i = tellV (price - sumN (othV f p t) i) ∧ leaveE price (othV f p t) i = tellE (price - sumN (othV f p t) i) := fun q => by unfold leaveV leaveE; rw [if_pos q, if_pos q]; exact ⟨rfl, rfl⟩
              have hlv2 : tellE (sumN (othV f p t) i) ≠ 0 → leaveE price (othV f p t) i = 3 := fun q => by unfold leaveE; rw [if_neg q]
              have la := leave_am price (othV f p t) i
              obtain ⟨c0, c1, e0, e1⟩ := HL.out.box.1
              have HIg := Lib.hid hig
              obtain ⟨S, hS⟩ : ∃ S, S = sumN (othV f p t) i := ⟨_, rfl⟩
              rw [← hS] at hs1 hs3 hlv hlv2 HL
              have HF2 := Lib.hid (fun (s : Int) (a : Option Addr) (len cap : Nat) (W : World) (h : Ex W s a len cap (price - S)) => fit_any s (price - S) a len cap W h hs3)
              have HF1 := Lib.hid (fun (W : World) (h : Ex W s x l cc S) => fit_any s S x l cc W h hs1)
              have HS13 := Lib.hid (And.intro hs1 (small64 HTp.out.1 HTp.out.2))
              obtain ⟨V1, hV1⟩ : ∃ V1, V1 = tellV S := ⟨_, rfl⟩
              obtain ⟨G1, hG1⟩ : ∃ G1, G1 = tellE S := ⟨_, rfl⟩
              obtain ⟨V2, hV2⟩ : ∃ V2, V2 = tellV (price - S) := ⟨_, rfl⟩
              obtain ⟨G2, hG2⟩ : ∃ G2, G2 = tellE (price - S) := ⟨_, rfl⟩
              rw [← hV1, ← hG1] at HF1
              rw [← hV2, ← hG2] at HF2
              rw [← hG1, ← hV2, ← hG2] at hlv
              rw [← hG1] at hlv2
              have HLv := Lib.hid (And.intro la (And.intro hlv hlv2))
              clear hbd hs1 hs3 hlv hlv2 la hig hS hV1 hG1 hV2 hG2 HPs hi hlt HSm
              go_wp2_with fail
              refine (HF1.out _ HL.out.ex).mono ?_
              rintro e w5 ⟨rfl, hb⟩
              have K0 := Lib.hid (HL.out.up hb).drew
              have HI0 := Lib.hid (ints_up HIg.out hb)
              clear hb HL HF1 c0 c1 e0 e1 HIg
              go_wp2_with fail
              go_region_held3 (fun w' => w'.cell? ⟨q, 0, none⟩ = some (.int .i64 s) ∧ w'.cell? ⟨q, 1, none⟩ = some (.slice x l cc))
                (first | (change Sc13 q s x l cc _; (first | with_reducible exact K0.out.sc | with_reducible exact k1.out.sc | with_reducible exact k2.out.sc | with_reducible exact k3.out.sc)))
                (first
                  | (go_at_call 27; ((with_reducible refine (HOf.out _).mono ?_); rintro e u1 ⟨s1, a1, n1, p1, rfl, hE1, hb1⟩; have k1 := Lib.hid (K0.out.up hb1); have i1 := Lib.hid (ints_up (ints_drew HI0.out) hb1); have E1 := Lib.hid hE1; clear hE1 hb1))
                  | (go_at_call 29; ((with_reducible refine (less_ex s1 s price S a1 x n1 l p1 cc _ E1.out k1.out.ex HS13.out.2 HS13.out.1).mono ?_); rintro e u2 ⟨s2, a2, n2, p2, rfl, hE2, hb2⟩; have k2 := Lib.hid (k1.out.up hb2); have i2 := Lib.hid (ints_up i1.out hb2); have E2 := Lib.hid hE2; clear hE2 hb2))
                  | (go_at_call 28; ((with_reducible refine (HF2.out s2 a2 n2 p2 _ E2.out).mono ?_); rintro e u3 ⟨rfl, hb3⟩; have k3 := Lib.hid (k2.out.up hb3); have i3 := Lib.hid (ints_up i2.out hb3); clear hb3)))
              have HB := Lib.hid k3.out.bel
              have HIg := i3
              clear K0 HI0 k1 k2 k3 i1 i2 E1 E2 HF2 HOf HTp HS13 HK
              by_cases q1 : G1 = 0
              · obtain ⟨l1, l2⟩ := HLv.out.2.1 q1
                by_cases q2 : G2 = 0
                · have HX := HE.out
                  rw [l1, l2, q2, if_neg (by decide)] at HX
                  by_cases q3 : V2 < 0
                  · rw [if_pos q3] at HX
                    have HXX := Lib.hid HX
                    subst q1 q2
                    clear l1 l2 HX HLv HE
                    go_wp2_with fail
                    go_ret2
                    exact rlisted_err HXX.out (by decide) HB.out rfl
                  · rw [if_neg q3] at HX
                    have HO := Lib.hid (fun (W : World) (q : Ints W g t (picV f p)) => rout_any V2 (picV f p) (some ⟨g, 0, none⟩) t cg W (fun k => HFm.out _) (by rw [← l1]; exact HLv.out.1.1) (by rw [← l1]; exact HLv.out.1.2) (ints_arg0 q))
                    have HV : Hid (someV price f i p t = putV f p (outV V2 (picV f p) t) t) := by
                      show _ = _
                      funext y
                      unfold someV
                      rw [l1]; exact put_base HR.out y
                    have HXX := Lib.hid HX
                    have q3z : decide (V2 < 0) = false := decide_eq_false q3
                    subst q1 q2
                    clear l1 l2 HX HLv HE q3
                    go_wp2_with fail
                    refine (HO.out _ HIg.out).mono ?_
                    rintro e w6 ⟨hb, h⟩
                    have HB6 := Lib.hid (up2 HB.out hb)
                    clear hb HB HIg HO
                    rcases h with ⟨he, rfl⟩ | ⟨he, r, cr, rfl, hr, hir⟩
                    · have HY := Lib.hid he
                      obtain ⟨E, hE⟩ : ∃ E, E = outE V2 (picV f p) t := ⟨_, rfl⟩
                      rw [← hE] at HXX HY ⊢
                      have z : (E != 0) = true := by have := HY.out; simp [this]
                      clear hE he HV
                      go_wp2_with fail
                      go_ret2
                      exact rlisted_err HXX.out HY.out HB6.out rfl
                    · rw [he] at HXX
                      obtain ⟨v, hv⟩ : ∃ v, v = outV V2 (picV f p) t := ⟨_, rfl⟩
                      rw [← hv] at hir HV
                      have hti : 0 < i := by have := rises_in HR.out h2; omega
                      have hrl := World.block_lt_of_cell? (a := ⟨r, 0, none⟩) _ (hir 0 h2).1
                      obtain ⟨v', w7, hrun, ho, hg7⟩ := vals_app (own_empty w6 (fun _ => 0)) (by decide) (by simp) capa ((HA.out.1.up13 HB6.out).up13 (boxed _ _)) (by omega) 22
                      have hb7 : Below w6.heap.size w6 w7 := (boxed w6 (.cells #[] 2)).grown hg7 (by simp) (fun y hy => by injection hy with hy; have hy : w6.heap.size = y := hy; omega)
                      obtain ⟨g2, cg2, hv', hg2, hi2⟩ := vals_ints (by omega) ho
                      have hi2' : Ints w7 g2 i f := by
                        rw [Nat.zero_add] at hi2
                        exact ints_same hi2 fun y _ => by unfold joinV; rw [if_neg (by omega), Nat.sub_zero]
                      rw [Nat.zero_add] at hv'
                      have HRn := Lib.hid hrun
                      have HB7 := Lib.hid (up2 HB6.out hb7)
                      have HI7 := Lib.hid hi2'
                      have HR7 := Lib.hid (ints_up hir hb7)
                      have HNe : Hid (r ≠ g2) := by have : r < w6.heap.size := hrl; show r ≠ g2; omega
                      have HG2 : Hid (w.heap.size ≤ g2) := by have := HB6.out.size; show _ ≤ _; omega
                      subst hv'
                      clear hv hti hrl hrun ho hg7 hb7 hg2 hi2 hi2' hir hr he HB6
                      go_wp2_with (first | (at_builtin; refine wpList_run (o := ⟨some 144, _, _, _, _, _⟩) rfl (.tmp 142) (.tmp 143) 22 rfl _ _ rfl rfl (S := fun u q => u = .slice (some ⟨g2, 0, none⟩) i cg2 ∧ q = w7) ⟨_, w7, HRn.out, rfl, rfl⟩ ?_; rintro u q ⟨rfl, rfl⟩) | fail)
                      go_loopw [21] (fun vi wr => ∃ y : Nat, y ≤ t ∧ vi = .int .i64 y ∧ Below w.heap.size w wr ∧ Ints wr g2 i (putV f p v y) ∧ Ints wr r t v) (fun vi _ => t - (intOf vi).toNat)
                      case atStart => exact ⟨0, Nat.zero_le _, rfl, HB7.out, HI7.out, HR7.out⟩
                      case round =>
                        clear HB7 HI7 HR7
                        obtain ⟨y, hy, rfl, hB, hI, hU⟩ := hrel
                        have HB := Lib.hid hB
                        have HI := Lib.hid hI
                        have HU := Lib.hid hU
                        clear hB hI hU
                        by_cases hlt : y < t
                        · obtain ⟨b1, off1, rfl, hr⟩ := HA.out.2 (by omega)
                          have c1 := kcell HB.out (hr y hlt)
                          have hin := rises_in HR.out hlt
                          obtain ⟨z, hz⟩ : ∃ z : Nat, p y = (z : Int) := ⟨(p y).toNat, by omega⟩
                          have hzn : z < i := by omega
                          rw [hz] at c1
                          have c2 := (HU.out y hlt).1
                          have c3 := (HI.out z hzn).1
                          have c4 := (HI.out z hzn).2
                          have HVs : Hid (putV f p v (y + 1) = fun s => if s = z then v y else putV f p v y s) := by
                            show _ = _
                            funext s
                            show (if (s : Int) = p y then v y else putV f p v y s) = _
                            by_cases q : s = z
                            · rw [if_pos q, if_pos (by omega)]
                            · rw [if_neg q, if_neg (by omega)]
                          obtain ⟨X, hX⟩ : ∃ X, X = v y := ⟨_, rfl⟩
                          obtain ⟨Y, hY⟩ : ∃ Y, Y = putV f p v y z := ⟨_, rfl⟩
                          rw [← hX] at c2 HVs
                          rw [← hY] at c3
                          have y0 : (0 : Int) ≤ (y : Int) := by omega
                          have yt : (y : Int) < (t : Int) := by omega
                          have z0 : (0 : Int) ≤ (z : Int) := by omega
                          have zi : (z : Int) < (i : Int) := by omega
                          clear hr hin hz hX hY
                          go_wp2_with fail
                          go_region
                          all_goals
                            go_wp2_with fail
                            go_roundw
                            case rel => exact ⟨y + 1, by omega, by go_num, blw (HB.out.setCell HG2.out _) _, by rw [HVs.out]; exact ints_set HI.out hzn X, fun u hu => ⟨cset (HU.out u hu).1 (.inl HNe.out), fset (HU.out u hu).2⟩⟩
                            case measure => simp [intOf]; omega
                        · obtain rfl : y = t := by omega
                          clear hy hlt
                          go_wp2_with fail
                          go_ret2
                          unfold RSPost
                          rw [HXX.out, HV.out]
                          exact ⟨HB.out, .inr ⟨rfl, g2, cg2, rfl, HG2.out, HI.out⟩⟩
                · have HX : Hid (someE price f i p t = 3) := by show _ = _; rw [HE.out, l2, if_pos q2]
                  have z : (G2 != 0) = true := by simp [q2]
                  subst q1
                  clear l1 l2 q2 HLv HE
                  go_wp2_with fail
                  go_ret2
                  exact rlisted_err HX.out (by decide) HB.out rfl
              · have HX : Hid (someE price f i p t = 3) := by show _ = _; rw [HE.out, HLv.out.2.2 q1, if_pos (by decide)]
                have z : (G1 != 0) = true := by simp [q1]
                clear q1 HLv HE
                go_wp2_with fail
                go_ret2
                exact rlisted_err HX.out (by decide) HB.out rfl

theorem rsome_any (price : Int) (f p : Nat → Int) (a c : Option Addr) (n m capa capc : Nat) (w : World) (hf : Amounts f) (ht : Am price) (hn : n ≤ 900) (hm : m ≤ 900) (hA : Arg w a n f) (hC : Arg w c m p) :
    Calls Try.prog 11 #[.int .i64 price, .slice a n capa, .slice c m capc] w (RSPost w price f n p m) := by
  by_cases h1 : price < 0 ∨ m = 0
  · exact rsome_no1 price f p a c n m capa capc w h1
  · by_cases h2 : ∃ t, t < n ∧ f t < 0
    · exact rsome_no2 price f p a c n m capa capc w (by omega) (by omega) (by omega) h2 hA
    · have hp : ∀ t, t < n → 0 ≤ f t := fun t ht => by
        apply Classical.byContradiction; intro q
        exact h2 ⟨t, ht, by omega⟩
      cases q : risesB p n m with
      | false => exact rsome_no3 price f p a c n m capa capc w (by omega) (by omega) (by omega) (by omega) hp q hA hC
      | true => exact rsome_yes price f p a c n m capa capc w hn hm hf ht (by omega) (by omega) hp q hA hC
end Go.Proofs.Ytbcdfkcgcaifjaa
