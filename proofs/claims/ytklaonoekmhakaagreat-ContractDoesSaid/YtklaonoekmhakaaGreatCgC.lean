/- Again. -/
import Derived.Test.YtklaonoekmhakaaGreatOv
import Derived.Test.YtklaonoekmhakaaGreatCgB
import Derived.Test.YtklaonoekmhakaaGreatDnMem
namespace Go.Proofs.YtklaonoekmhakaaGreat
open Go.RowKit

def AgainPost (w : World) (total : Int) (d : Nat → Int) (n : Nat) (f : Nat → Int) (k : Nat) (e : Ending) (w' : World) : Prop :=
  Listed w (againE total d n f k) k (againV total d n f k) e w' ∧
    (againE total d n f k = 0 → Sorts k (restV (if 0 ≤ leaveV total d n then leaveV total d n else -leaveV total d n) f (sumN f k)))
set_option maxRecDepth 100000 in
theorem again_err {w w' : World} {total : Int} {d f : Nat → Int} {n k : Nat} {err : Int} {e : Ending} (h : againE total d n f k = err) (h0 : err ≠ 0) (hb : Below w.heap.size w w') (he : e = .returned (.tuple #[.slice none 0 0, .int .i64 err])) : AgainPost w total d n f k e w' := by
  unfold AgainPost; rw [h]; exact ⟨⟨hb, .inl ⟨h0, he⟩⟩, fun q => absurd q h0⟩
set_option maxRecDepth 100000 in
set_option maxHeartbeats 4000000 in
theorem again_any (total : Int) (d f : Nat → Int) (a c : Option Addr) (n k capa capc : Nat) (w : World) (hd : Amounts d) (hf : Amounts f) (ht : Am total) (hn : n ≤ 1000) (hA : Arg w a n d) (hC : Arg w c k f) :
    Calls Tryz.prog 54 #[.int .i64 total, .slice a n capa, .slice c k capc] w (AgainPost w total d n f k) := by
  by_cases hnk : n ≠ k
  · have HE : Hid (againE total d n f k = 1) := by show _ = _; unfold againE; rw [if_pos hnk]
    have z : ((n : Int) != (k : Int)) = true := by simp; omega
    clear hd hf ht hA hC hnk
    go_enter Tryz.func54, Tryz.ntmps54
    go_wp2_with fail
    go_ret2
    exact again_err HE.out (by decide) (Below.refl _ _) rfl
  · obtain rfl : n = k := Classical.byContradiction hnk
    have HL := Lib.hid (leave_any total d a n capa w hd ht hn hA)
    have HO := Lib.hid (fun (W : World) (q : Below w.heap.size w W) => out_any (leaveV total d n) f c n capc W hf (leave_am total d n).1 (leave_am total d n).2 (hC.up13 q))
    have HA := Lib.hid hA
    have HD := Lib.hid hd
    have HV : outE (leaveV total d n) f n = 0 → Hid (∀ t, t < n → Am (outV (leaveV total d n) f n t)) := fun q t ht => (out_facts (leave_am total d n).1 (leave_am total d n).2 q ht).2.2.2
    have HE1 : Hid (leaveE total d n ≠ 0 → againE total d n f n = 3) := fun q => by unfold againE; rw [if_neg hnk, if_pos q]
    have HE2 : Hid (leaveE total d n = 0 → outE (leaveV total d n) f n ≠ 0 → againE total d n f n = outE (leaveV total d n) f n) := fun q q2 => by unfold againE; rw [if_neg hnk, if_neg (by omega), if_pos q2]
    have HE3 : Hid (leaveE total d n = 0 → outE (leaveV total d n) f n = 0 → againE total d n f n = if overB d (outV (leaveV total d n) f n) n then 3 else 0) := fun q q2 => by unfold againE; rw [if_neg hnk, if_neg (by omega), if_neg (by omega)]
    clear hd hf ht hA hC hnk
    by_cases hl : leaveE total d n = 0
    · rw [hl] at HL
      have HLE := Lib.hid hl
      clear hl
      obtain ⟨L, hL⟩ : ∃ L, L = leaveV total d n := ⟨_, rfl⟩
      obtain ⟨v, hv⟩ : ∃ v, v = outV L f n := ⟨_, rfl⟩
      have HVA : Hid (againV total d n f n = fun t => d t + v t) := by show _ = _; funext t; unfold againV; rw [hv, hL]
      rw [← hL] at HL HO HE2 HE3 HV
      rw [← hv] at HO HE3 HV
      have HLd := Lib.hid hL
      clear hL hv HE1
      go_enter Tryz.func54, Tryz.ntmps54
      go_wp2_with fail
      refine HL.out.mono ?_
      rintro e w1 ⟨rfl, hb⟩
      have HB1 := Lib.hid hb
      clear hb HL
      go_wp2_with fail
      refine (HO.out _ HB1.out).mono ?_
      rintro e w2 ⟨⟨hb, h⟩, hs⟩
      have HB2 := Lib.hid (up2 HB1.out hb)
      have HS1 : Hid (w.heap.size ≤ w1.heap.size) := HB1.out.size
      have HS := Lib.hid hs
      clear hb HB1 HO hs
      rcases h with ⟨he, rfl⟩ | ⟨he, p, rfl, hp, hi⟩
      · have HX : Hid (againE total d n f n = outE L f n) := HE2.out HLE.out he
        have HY := Lib.hid he
        clear he HE3 HE2 HV
        obtain ⟨E, hE⟩ : ∃ E, E = outE L f n := ⟨_, rfl⟩
        rw [← hE] at HX HY ⊢
        have z : (E != 0) = true := by have := HY.out; simp [this]
        clear hE
        go_wp2_with fail
        go_ret2
        exact again_err HX.out HY.out HB2.out rfl
      · have HX := HE3.out HLE.out he
        have HXX := Lib.hid HX
        have HVV := HV he
        have HI := Lib.hid hi
        have HP : Hid (w.heap.size ≤ p) := by have := HS1.out; show _ ≤ _; omega
        have HS2 := Lib.hid (HS.out he)
        clear HX HV HE2 HE3 hi hp HS1 HS he
        go_wp2_with fail
        go_loopw [9, 38] (fun ve vi wr => ∃ i : Nat, i ≤ n ∧ vi = .int .i64 i ∧ ve = .int .i64 0 ∧ Below w.heap.size w wr ∧ Ints wr p n (fun t => if t < i then d t + v t else v t) ∧ Hid (overB d v i = false)) (fun _ vi _ => n - (intOf vi).toNat)
        case atStart => exact ⟨0, Nat.zero_le _, rfl, rfl, HB2.out, by simpa using HI.out, rfl⟩
        case round =>
          clear HB2 HI
          obtain ⟨i, hi, rfl, rfl, hB, hI, HOv⟩ := hrel
          have HB := Lib.hid hB
          have HI := Lib.hid hI
          clear hB hI
          by_cases hlt : i < n
          · obtain ⟨b, off, rfl, hr⟩ := HA.out (by omega)
            have c1 := kcell HB.out (hr i hlt)
            have c3 := (HI.out i hlt).1
            have c4 := (HI.out i hlt).2
            simp only [if_neg (show ¬ i < i by omega)] at c3
            have HAdd := Lib.hid (fun W => add_any (d i) (v i) W (HD.out i).1 (HD.out i).2 (HVV.out i hlt).1 (HVV.out i hlt).2)
            have hor := tellE_or (d i + v i)
            have HOv3 : Hid (tellE (d i + v i) = 3 → overB d v n = true) := fun q => overB_yes hlt q
            have HOv0 : Hid (tellE (d i + v i) = 0 → overB d v (i + 1) = false) := fun q => by
              show (overB d v i || decide (tellE (d i + v i) = 3)) = false
              rw [HOv.out, q]; rfl
            have HFt : Hid ((fun t => if t < i + 1 then d t + v t else v t) = fun t => if t = i then d i + v i else if t < i then d t + v t else v t) := by
              show _ = _
              funext t
              by_cases e : t = i
              · subst e; rw [if_pos (by omega), if_pos rfl]
              · rw [if_neg e]
                by_cases e2 : t < i
                · rw [if_pos e2, if_pos (by omega)]
                · rw [if_neg e2, if_neg (by omega)]
            obtain ⟨x, hx⟩ : ∃ x, x = d i := ⟨_, rfl⟩
            obtain ⟨y, hy⟩ : ∃ y, y = v i := ⟨_, rfl⟩
            rw [← hx] at c1 HAdd hor HOv3 HOv0 HFt
            rw [← hy] at c3 HAdd hor HOv3 HOv0 HFt
            clear hr hx hy
            rcases hor with ⟨e1, e2, _⟩ | ⟨e1, e2, _⟩
            · rw [e1, e2] at HAdd
              have HN := Lib.hid (HOv0.out e1)
              clear e1 e2 HOv0 HOv3
              go_wp2_with fail
              refine (HAdd.out _).mono ?_
              rintro e w3 ⟨rfl, hb⟩
              have HB3 := Lib.hid (up2 HB.out hb)
              have HI3 := Lib.hid (ints_up HI.out hb)
              have d3 := kcell hb c3
              have d4 := (HI3.out i hlt).2
              clear hb c1 c3 c4 HB HI HAdd
              go_wp2_with fail
              go_roundw
              case rel => exact ⟨i + 1, by omega, by go_num, rfl, HB3.out.setCell HP.out _, by rw [HFt.out]; exact ints_set HI3.out hlt (x + y), HN.out⟩
              case measure => simp [intOf]; omega
            · rw [e1, e2] at HAdd
              have HN : Hid (againE total d n f n = 3) := by show _ = _; rw [HXX.out, HOv3.out e1]; rfl
              clear e1 e2 HOv0 HOv3 HFt
              go_wp2_with fail
              refine (HAdd.out _).mono ?_
              rintro e w3 ⟨rfl, hb⟩
              have HB3 := Lib.hid (up2 HB.out hb)
              have HI3 := Lib.hid (ints_up HI.out hb)
              have d3 := kcell hb c3
              have d4 := (HI3.out i hlt).2
              clear hb c1 c3 c4 HB HI HAdd
              go_wp2_with fail
              go_ret2
              exact again_err HN.out (by decide) (HB3.out.setCell HP.out _) rfl
          · have hie : i = n := by omega
            subst hie
            have HN : Hid (againE total d i f i = 0) := by show _ = _; rw [HXX.out, HOv.out]; rfl
            clear hi hlt
            go_wp2_with fail
            go_ret2
            unfold AgainPost
            rw [HN.out, HVA.out, ← HLd.out]
            exact ⟨⟨HB.out, .inr ⟨rfl, p, rfl, HP.out, ints_same HI.out fun t ht => by rw [if_pos ht]⟩⟩, fun _ => HS2.out⟩
    · have HE : Hid (againE total d n f n = 3) := HE1.out hl
      rw [leave_err hl] at HL
      clear hl HE1 HE2 HE3 HV HO HA HD
      obtain ⟨L, hL⟩ : ∃ L, L = leaveV total d n := ⟨_, rfl⟩
      rw [← hL] at HL
      clear hL
      go_enter Tryz.func54, Tryz.ntmps54
      go_wp2_with fail
      refine HL.out.mono ?_
      rintro e w1 ⟨rfl, hb⟩
      have HB1 := Lib.hid hb
      clear hb HL
      go_wp2_with fail
      go_ret2
      exact again_err HE.out (by decide) HB1.out rfl
end Go.Proofs.YtklaonoekmhakaaGreat

namespace Go.Proofs.YtklaonoekmhakaaGreat
open Go.RowKit

/-- the next place of a row -/
theorem upto_put {n j : Nat} {f : Nat → Int} {v : Int} (hv : v = f j) : ∀ t, t < n → (if t < j + 1 then f t else 0) = if t = j then v else if t < j then f t else 0 := fun t _ => by
  by_cases z : t = j
  · subst z; rw [if_pos (by omega), if_pos rfl, hv]
  · rw [if_neg z]
    by_cases y : t < j
    · rw [if_pos y, if_pos (by omega)]
    · rw [if_neg y, if_neg (by omega)]
theorem upto_same {W : World} {g n k : Nat} {f : Nat → Int} (h : IntsR W g n (fun t => if t < k then f t else 0)) (hv : (0 : Int) = f k) : IntsR W g n (fun t => if t < k + 1 then f t else 0) := fun t ht => by
  have z := h t ht
  simp only at z ⊢
  rw [upto_put hv t ht]
  by_cases y : t = k
  · rw [if_pos y]; rw [if_neg (by omega)] at z; exact z
  · rw [if_neg y]; exact z
theorem upto_all {W : World} {g n : Nat} {f : Nat → Int} (h : IntsR W g n (fun t => if t < n then f t else 0)) : Ints W g n f := fun t ht => by
  have := h t ht
  simp only [if_pos ht] at this
  exact this
section
variable {w w' : World} {O : Nat → Prop} {c : Nat} {P : Nat → Nat} {Q : Nat → Nat → Prop} {ab tb ac tc : Nat} {S : Ct}
set_option maxRecDepth 100000 in
set_option maxHeartbeats 4000000 in
theorem cxearned_any (h : PgX w O c S P Q ab tb ac tc) (day : Int) : Calls Tryz.prog 44 #[.pointer (some ⟨c, 0, none⟩), .int .i64 day] w (NewI w S.n (S.ear day)) := by
  unfold NewI
  have hn := h.fine.n1
  have c1 := h.c1
  have HP := Lib.hid h.pg.ptr
  have HE : Hid (∀ (W : World) (t : Nat), Below w.heap.size w W → t < S.n → Calls Tryz.prog 48 #[.pointer (some ⟨P t, 0, none⟩), .int .i64 day] W fun e w' => e = .returned (.int .i64 (S.ear day t)) ∧ Below W.heap.size W w') := Lib.hid fun W t q ht => by
    obtain ⟨_, _, _, _, _, hx⟩ := (h.up q).tk ht
    exact tearned_any hx day
  generalize S.n = n at hn c1 HP HE ⊢
  generalize S.ear day = f at HE ⊢
  clear h
  obtain ⟨i0, hi, hz0, hz1, hz2⟩ := info_parts infoI64d
  have HC1 := Lib.hid c1
  go_enter Tryz.func44, Tryz.ntmps44
  go_wp2_with (at_make; refine wpList_make_full _ rfl _ _ 64 rfl w.heap.size 2 i0 (.int .i64 0) 1 Tryz.underlying64 hi hz0 hz1 .i64 .i64 _ _ n rfl rfl ?c1 ?c2 ?c3 ?c4 ?c5 ?_)
  case c1 => rfl
  case c2 => rfl
  case c3 => rw [hz2]; omega
  case c4 => unfold maxLen; omega
  case c5 => exact Nat.le_refl _
  intro w1 hown hgrow
  have hb1 : Below w.heap.size w w1 := (Below.refl _ _).grown hgrow (Nat.le_refl _) (fun k hk => by simp at hk)
  have HI := Lib.hid (made_intsR hown)
  have HB := Lib.hid hb1
  obtain ⟨g, hg⟩ : ∃ g, g = w.heap.size := ⟨_, rfl⟩
  have HG : Hid (w.heap.size ≤ g) := by rw [hg]; exact Nat.le_refl _
  rw [← hg] at HI
  rw [← hg]
  clear hown hgrow hg hi hz0 hz1 hz2 i0 c1
  have c1 := kcell hb1 HC1.out
  clear hb1
  go_wp2_with fail
  clear c1
  go_loopw [19] (fun i wr => ∃ k : Nat, k ≤ n ∧ i = .int .i64 (k : Int) ∧ IntsR wr g n (fun t => if t < k then f t else 0) ∧ Below w.heap.size w wr) (fun i _ => n - (intOf i).toNat)
  case atStart => exact ⟨0, Nat.zero_le _, rfl, by simpa using HI.out, HB.out⟩
  case round =>
    obtain ⟨k, hk, rfl, hI, hb⟩ := hrel
    have HIr := Lib.hid hI
    have HBr := Lib.hid hb
    clear hI hb
    by_cases hlt : k < n
    · have z0 := kcell HBr.out (HP.out k hlt)
      have HQ := Lib.hid (HE.out wr k HBr.out hlt)
      have HV : Hid (∃ v, v = f k) := Lib.hid ⟨_, rfl⟩
      obtain ⟨v, hv⟩ := HV.out
      rw [← hv] at HQ
      have HVe := Lib.hid hv
      obtain ⟨b, hb⟩ : ∃ b, b = P k := ⟨_, rfl⟩
      rw [← hb] at HQ z0
      have hk0 : (0 : Int) ≤ (k : Int) := by omega
      have hk1 : (k : Int) < (n : Int) := by omega
      have e1 : IntKind.i64.wrap ((k : Int) + 1) = (k : Int) + 1 := IntWalk.i64_in _ (by omega)
      clear hv hb HV
      go_wp2_with fail
      refine HQ.out.mono ?_
      rintro e w3 ⟨rfl, hb⟩
      have hi2 := HIr.out.up hb
      have g0 := (hi2 k hlt).1
      have g1 := (hi2 k hlt).2
      have HI3 := Lib.hid hi2
      have HB3 := Lib.hid (up2 HBr.out hb)
      clear hb hi2 z0
      go_wp2_with fail
      go_roundw
      case rel =>
        exact ⟨k + 1, by omega, by go_num, HI3.out.put v (upto_put HVe.out), HB3.out.setCell (p := ⟨g, k, none⟩) HG.out (.int .i64 v)⟩
      case measure => simp [intOf]; omega
    · obtain rfl : k = n := by omega
      go_wp2_with fail
      go_ret
      exact ⟨g, rfl, HBr.out, HG.out, upto_all HIr.out⟩
set_option maxRecDepth 100000 in
set_option maxHeartbeats 4000000 in
theorem cxopen_any (h : PgX w O c S P Q ab tb ac tc) (day : Int) : Calls Tryz.prog 55 #[.pointer (some ⟨c, 0, none⟩), .int .i64 day] w (NewI w S.n (S.wei day)) := by
  unfold NewI
  have hn := h.fine.n1
  have c1 := h.c1
  have HC0 := Lib.hid h.c0
  have HP := Lib.hid h.pg.ptr
  have HAl := Lib.hid h.pg.alo
  have HE : Hid (∀ (W : World) (t : Nat), Below w.heap.size w W → t < S.n → Calls Tryz.prog 94 #[.pointer (some ⟨P t, 0, none⟩), .int .i64 day] W fun e w' => e = .returned (.bool (S.whoB day t)) ∧ Below W.heap.size W w') := Lib.hid fun W t q ht => by
    obtain ⟨_, _, _, _, _, hx⟩ := (h.up q).tk ht
    exact twhole_any hx day
  have HW : Hid (∀ t, S.wei day t = if S.whoB day t = true then 0 else S.alo t) := Lib.hid fun t => rfl
  generalize S.n = n at hn c1 HP HE HAl HC0 ⊢
  generalize S.wei day = f at HW ⊢
  generalize S.whoB day = wb at HE HW
  generalize S.alo = al at HAl HW
  clear h
  obtain ⟨i0, hi, hz0, hz1, hz2⟩ := info_parts infoI64d
  have HC1 := Lib.hid c1
  go_enter Tryz.func55, Tryz.ntmps55
  go_wp2_with (at_make; refine wpList_make_full _ rfl _ _ 64 rfl w.heap.size 2 i0 (.int .i64 0) 1 Tryz.underlying64 hi hz0 hz1 .i64 .i64 _ _ n rfl rfl ?c1 ?c2 ?c3 ?c4 ?c5 ?_)
  case c1 => rfl
  case c2 => rfl
  case c3 => rw [hz2]; omega
  case c4 => unfold maxLen; omega
  case c5 => exact Nat.le_refl _
  intro w1 hown hgrow
  have hb1 : Below w.heap.size w w1 := (Below.refl _ _).grown hgrow (Nat.le_refl _) (fun k hk => by simp at hk)
  have HI := Lib.hid (made_intsR hown)
  have HB := Lib.hid hb1
  obtain ⟨g, hg⟩ : ∃ g, g = w.heap.size := ⟨_, rfl⟩
  have HG : Hid (w.heap.size ≤ g) := by rw [hg]; exact Nat.le_refl _
  rw [← hg] at HI
  rw [← hg]
  clear hown hgrow hg hi hz0 hz1 hz2 i0 c1
  have c1 := kcell hb1 HC1.out
  clear hb1
  go_wp2_with fail
  clear c1
  go_loopw [19] (fun i wr => ∃ k : Nat, k ≤ n ∧ i = .int .i64 (k : Int) ∧ IntsR wr g n (fun t => if t < k then f t else 0) ∧ Below w.heap.size w wr) (fun i _ => n - (intOf i).toNat)
  case atStart => exact ⟨0, Nat.zero_le _, rfl, by simpa using HI.out, HB.out⟩
  case round =>
    obtain ⟨k, hk, rfl, hI, hb⟩ := hrel
    have HIr := Lib.hid hI
    have HBr := Lib.hid hb
    clear hI hb
    by_cases hlt : k < n
    · have z0 := kcell HBr.out (HP.out k hlt)
      have HQ := Lib.hid (HE.out wr k HBr.out hlt)
      have hk0 : (0 : Int) ≤ (k : Int) := by omega
      have hk1 : (k : Int) < (n : Int) := by omega
      have e1 : IntKind.i64.wrap ((k : Int) + 1) = (k : Int) + 1 := IntWalk.i64_in _ (by omega)
      obtain ⟨b, hb⟩ : ∃ b, b = P k := ⟨_, rfl⟩
      rw [← hb] at HQ z0
      clear hb
      cases q : wb k with
      | true =>
        rw [q] at HQ
        have HVe : Hid ((0 : Int) = f k) := Lib.hid (by rw [HW.out, q]; rfl)
        clear q
        go_wp2_with fail
        refine HQ.out.mono ?_
        rintro e w3 ⟨rfl, hb⟩
        have HI3 := Lib.hid (HIr.out.up hb)
        have HB3 := Lib.hid (up2 HBr.out hb)
        clear hb z0
        go_wp2_with fail
        go_roundw
        case rel =>
          exact ⟨k + 1, by omega, by go_num, upto_same HI3.out HVe.out, HB3.out⟩
        case measure => simp [intOf]; omega
      | false =>
        rw [q] at HQ
        have HVe : Hid (al k = f k) := Lib.hid (by rw [HW.out, q]; rfl)
        have HA := Lib.hid (HAl.out k hlt).1
        obtain ⟨v, hv⟩ : ∃ v, v = al k := ⟨_, rfl⟩
        rw [← hv] at HVe HA
        clear q hv
        go_wp2_with fail
        refine HQ.out.mono ?_
        rintro e w3 ⟨rfl, hb⟩
        have hi2 := HIr.out.up hb
        have g0 := (hi2 k hlt).1
        have g1 := (hi2 k hlt).2
        have HI3 := Lib.hid hi2
        have HB3 := Lib.hid (up2 HBr.out hb)
        have a0 := kcell HB3.out HA.out
        have c0 := kcell HB3.out HC0.out
        clear hb hi2 z0
        go_wp2_with fail
        go_roundw
        case rel =>
          exact ⟨k + 1, by omega, by go_num, HI3.out.put v (upto_put HVe.out), HB3.out.setCell (p := ⟨g, k, none⟩) HG.out (.int .i64 v)⟩
        case measure => simp [intOf]; omega
    · obtain rfl : k = n := by omega
      go_wp2_with fail
      go_ret
      exact ⟨g, rfl, HBr.out, HG.out, upto_all HIr.out⟩
set_option maxRecDepth 100000 in
set_option maxHeartbeats 2000000 in
theorem cxall_any (h : PgX w O c S P Q ab tb ac tc) (day : Int) : Calls Tryz.prog 19 #[.pointer (some ⟨c, 0, none⟩), .int .i64 day] w fun e w' => e = .returned (.int .i64 (S.all day)) ∧ Below w.heap.size w w' := by
  have HE := Lib.hid (cxearned_any h day)
  unfold NewI at HE
  have hn := h.fine.n1
  have HS := Lib.hid (fun (W : World) (p : Nat) (q : Ints W p S.n (S.ear day)) => sum_arg (S.ear day) (some ⟨p, 0, none⟩) S.n S.n W (h.fine.ear_am day) (by omega) (ints_arg0 q))
  have ha : Am (sumN (S.ear day) S.n) := by
    have := h.fine.all_bd day
    unfold Ct.all at this
    unfold Am; omega
  rw [tellV_in ha, tellE_in ha] at HS
  have HS : Hid (∀ (W : World) (p : Nat), Ints W p S.n (S.ear day) → Calls Tryz.prog 27 #[.slice (some ⟨p, 0, none⟩) S.n S.n] W fun e w' => e = .returned (.tuple #[.int .i64 (S.all day), .int .i64 0]) ∧ Below W.heap.size W w') := HS
  generalize S.all day = v at HS ⊢
  generalize S.ear day = f at HE HS
  generalize S.n = n at HE HS
  clear h ha hn
  go_enter Tryz.func19, Tryz.ntmps19
  go_wp2_with fail
  refine HE.out.mono ?_
  rintro e w1 ⟨p, rfl, hb, _, hI⟩
  have HB := Lib.hid hb
  have HC := Lib.hid (HS.out w1 p hI)
  clear hb hI
  go_wp2_with fail
  refine HC.out.mono ?_
  rintro e w2 ⟨rfl, hb⟩
  have HB2 := Lib.hid (up2 HB.out hb)
  clear hb
  go_wp2_with fail
  go_ret
  exact ⟨rfl, HB2.out⟩
/-- what next answers -/
def NextR (w : World) (S : Ct) (day more : Int) (e : Ending) (w' : World) : Prop := ∃ V, e = .returned (.tuple #[.int .i64 V, .int .i64 (S.may day more)]) ∧ (S.may day more = 0 → V = S.N + more) ∧ Below w.heap.size w w'
theorem NextR.no {day more X V : Int} (h : S.may day more = X) (h0 : X ≠ 0) (hb : Below w.heap.size w w') : NextR w S day more (.returned (.tuple #[.int .i64 V, .int .i64 X])) w' :=
  ⟨V, by rw [h], fun z => absurd (h.symm.trans z) h0, hb⟩
theorem NextR.yes {day more : Int} (h : S.may day more = tellE (S.N + more)) (hb : Below w.heap.size w w') : NextR w S day more (.returned (.tuple #[.int .i64 (tellV (S.N + more)), .int .i64 (tellE (S.N + more))])) w' := by
  refine ⟨_, by rw [h], fun z => ?_, hb⟩
  rcases tellE_or (S.N + more) with ⟨_, z2, _⟩ | ⟨z2, _⟩
  · exact z2
  · rw [h, z2] at z; cases z
set_option maxRecDepth 100000 in
set_option maxHeartbeats 4000000 in
theorem cxnext_any (h : PgX w O c S P Q ab tb ac tc) (day more : Int) (hm : Am more) : Calls Tryz.prog 53 #[.pointer (some ⟨c, 0, none⟩), .int .i64 day, .int .i64 more] w (NextR w S day more) := by
  have c0 := h.has.cell 2
  have c1 := h.has.cell 3
  have c2 := h.has.cell 4
  simp at c0 c1 c2
  have hN0 := h.fine.N0
  have hN1 := h.fine.N1
  have hch := h.fine.ch
  have HD : Hid (S.may day more = if day < 1 ∨ 1000000 < day then 1 else if day < S.la then 11 else if 40 ≤ S.ch then 4 else tellE (S.N + more)) := Lib.hid rfl
  have HYes := Lib.hid (fun (w' : World) => @NextR.yes w w' S day more)
  have HNo := Lib.hid (fun (w' : World) (X V : Int) => @NextR.no w w' S day more X V)
  have HDay := Lib.hid (fun (W : World) => cxday_any day W)
  generalize S.N = N at c0 hN0 hN1 HD HYes
  generalize S.la = la at c1 HD
  generalize S.ch = ch at c2 hch HD
  have HAdd := Lib.hid (fun (W : World) => add_any N more W (by omega) (by omega) hm.1 hm.2)
  clear h hm
  by_cases q1 : day < 1 ∨ 1000000 < day
  · have e : dayB day = false := by unfold dayB; simp; omega
    rw [if_pos q1] at HD
    rw [e] at HDay
    clear q1 e
    go_enter Tryz.func53, Tryz.ntmps53
    go_wp2_with fail
    refine (HDay.out _).mono ?_
    rintro e w1 ⟨rfl, rfl⟩
    go_wp2_with fail
    go_ret2
    exact HNo.out _ _ _ HD.out (by decide) (Below.refl _ _)
  have e : dayB day = true := by unfold dayB; simp; omega
  rw [if_neg q1] at HD
  rw [e] at HDay
  clear q1 e
  by_cases q2 : day < la
  · rw [if_pos q2] at HD
    go_enter Tryz.func53, Tryz.ntmps53
    go_wp2_with fail
    refine (HDay.out _).mono ?_
    rintro e w1 ⟨rfl, rfl⟩
    go_wp2_with fail
    go_ret2
    exact HNo.out _ _ _ HD.out (by decide) (Below.refl _ _)
  rw [if_neg q2] at HD
  by_cases q3 : ch = 40
  · have q3' : ((ch : Int) == 40) = true := by simp; omega
    rw [if_pos (by omega)] at HD
    clear q3
    go_enter Tryz.func53, Tryz.ntmps53
    go_wp2_with fail
    refine (HDay.out _).mono ?_
    rintro e w1 ⟨rfl, rfl⟩
    go_wp2_with fail
    go_ret2
    exact HNo.out _ _ _ HD.out (by decide) (Below.refl _ _)
  have q3' : ((ch : Int) == 40) = false := by simp; omega
  rw [if_neg (by omega)] at HD
  clear q3
  go_enter Tryz.func53, Tryz.ntmps53
  go_wp2_with fail
  refine (HDay.out _).mono ?_
  rintro e w1 ⟨rfl, rfl⟩
  go_wp2_with fail
  refine (HAdd.out _).mono ?_
  rintro e w1 ⟨rfl, hb⟩
  have HB := Lib.hid hb
  clear hb
  go_wp2_with fail
  go_ret2
  exact HYes.out _ HD.out HB.out
end
end Go.Proofs.YtklaonoekmhakaaGreat
