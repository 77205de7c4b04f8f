/- ofOthers: what the others are worth alone, told by a map. -/
import Derived.Test.YtbcdfkcgcaifjaaAlMp
namespace Go.Proofs.Ytbcdfkcgcaifjaa
open Go.RowKit

def amtV (f : Nat → Int) (t : Nat) : Value := .int .i64 (f t)
theorem zeroI64m (W : World) : (zeroValue 2).run Try.prog W = .ok (.int .i64 0) W := by kernel_rfl
theorem run_makeHint (n : Nat) (w : World) : (Instr.makeMap 60 (some (.int .i64 (n : Int)))).run Try.prog w = .ok (.map (some w.heap.size)) (w.alloc (.map #[] 0)) := by
  simp [Instr.makeMap, run_underlying Try.underlying60, asInt, asIntOf, Result.andThen]
/-- the map's block, and what is behind it -/
structure OthM (w : World) (b n : Nat) (D : Nat → Prop) (f : Nat → Int) (W : World) : Prop where
  bel : Below w.heap.size w W
  mi : Mi W b n D (amtV f)
  b0 : w.heap.size ≤ b
theorem OthM.next {w W W' : World} {b n : Nat} {D D' : Nat → Prop} {f : Nat → Int} (h : OthM w b n D f W) (hm : Mi W' b n D' (amtV f)) (hg : W.grownBy W' (some b)) : OthM w b n D' f W' :=
  ⟨h.bel.grown hg h.bel.size (fun j hj => by injection hj with hj; have := h.b0; omega), hm, h.b0⟩
set_option maxRecDepth 100000 in
set_option maxHeartbeats 4000000 in
theorem others_any (f p : Nat → Int) (a c : Option Addr) (n m capa capc : Nat) (w : World) (hA : Arg w a n f) (hC : Arg w c m p) (hR : risesB p n m = true) (h0 : 0 < n) (hn : n ≤ 1000) (hm : m ≤ 1000) :
    Calls Try.prog 23 #[.slice a n capa, .slice c m capc] w (NewI w n (othV f p m)) := by
  obtain ⟨i0, hi, hz0, hz1, hz2⟩ := info_parts infoI64p
  have HA := Lib.hid hA
  have HC := Lib.hid hC
  have HR := Lib.hid hR
  clear hA hC hR
  have hmm := run_makeHint n
  go_enter Try.func23, Try.ntmps23
  go_wp2_with fail
  obtain ⟨W0, hW0⟩ : ∃ W0, W0 = w.alloc (.map #[] 0) := ⟨_, rfl⟩
  have hM0 : OthM w w.heap.size n (fun _ => False) f W0 := by rw [hW0]; exact ⟨boxed _ _, Mi.fresh w n _, Nat.le_refl _⟩
  rw [← hW0]
  obtain ⟨b, hb⟩ : ∃ b, b = w.heap.size := ⟨_, rfl⟩
  rw [← hb] at hM0 ⊢
  have HM0 := Lib.hid hM0
  clear hW0 hb hM0
  go_loopw [17] (fun vi wr => ∃ k : Nat, k ≤ n ∧ vi = .int .i64 k ∧ OthM w b n (fun t => t < k) f wr) (fun vi _ => n - (intOf vi).toNat)
  case atStart => exact ⟨0, Nat.zero_le _, rfl, HM0.out.bel, HM0.out.mi.same fun t _ => ⟨fun q => absurd q (Nat.not_lt_zero t), fun q => q.elim⟩, HM0.out.b0⟩
  case round =>
    clear HM0
    obtain ⟨k, hk, rfl, hM⟩ := hrel
    have HM := Lib.hid hM
    clear hM
    by_cases hlt : k < n
    · obtain ⟨b1, off1, rfl, hr⟩ := HA.out (by omega)
      have c1 := kcell HM.out.bel (hr k hlt)
      obtain ⟨W1, hrun, hmi, hg, hsz⟩ := HM.out.mi.put Try.underlying60 hn hlt
      have HN := Lib.hid (HM.out.next hmi hg)
      unfold amtV at hrun
      clear hr hmi hg hsz
      go_wp2_with fail
      go_roundw
      case rel => exact ⟨k + 1, by omega, by go_num, HN.out.bel, HN.out.mi.same fun t _ => by omega, HN.out.b0⟩
      case measure => simp [intOf]; omega
    · have hke : k = n := by omega
      subst hke
      obtain ⟨wo, hwo⟩ : ∃ wo, wo = wr := ⟨_, rfl⟩
      rw [← hwo] at HM ⊢
      clear hwo hlt hk
      go_wp2_with fail
      go_loopw [28] (fun vi wr => ∃ j : Nat, j ≤ m ∧ vi = .int .i64 j ∧ OthM w b k (fun t => inB p j (t : Int) = false) f wr) (fun vi _ => m - (intOf vi).toNat)
      case atStart => exact ⟨0, Nat.zero_le _, rfl, HM.out.bel, HM.out.mi.same fun t ht => by simp [inB, ht], HM.out.b0⟩
      case round =>
        clear HM
        obtain ⟨j, hj, rfl, hM⟩ := hrel
        have HM := Lib.hid hM
        clear hM
        by_cases hlt : j < m
        · obtain ⟨b1, off1, rfl, hr⟩ := HC.out (by omega)
          have c1 := kcell HM.out.bel (hr j hlt)
          have hin := rises_in HR.out hlt
          obtain ⟨x, hx⟩ : ∃ x : Nat, p j = (x : Int) := ⟨(p j).toNat, by omega⟩
          have hxn : x < k := by omega
          rw [hx] at c1
          obtain ⟨W1, hrun, hmi, hg, hsz⟩ := HM.out.mi.del Try.underlying60 hn hxn 0
          have HN := Lib.hid (HM.out.next hmi hg)
          have HX := Lib.hid hx
          clear hr hmi hg hsz hin hx
          go_wp2_with (at_delete; refine wpList_delete_run rfl _ _ 60 rfl _ _ rfl rfl W1 hrun ?_)
          go_roundw
          case rel => exact ⟨j + 1, by omega, by go_num, HN.out.bel, HN.out.mi.same fun t _ => by
            simp only [inB, Bool.or_eq_false_iff, beq_eq_false_iff_ne, HX.out]; constructor <;> (rintro ⟨q1, q2⟩; exact ⟨q1, by omega⟩), HN.out.b0⟩
          case measure => simp [intOf]; omega
        · have hje : j = m := by omega
          subst hje
          obtain ⟨w3, hw3⟩ : ∃ w3, w3 = wr := ⟨_, rfl⟩
          rw [← hw3] at HM ⊢
          clear hw3 hlt hj
          go_wp2_with (at_make; refine wpList_make_full _ rfl _ _ 22 rfl w3.heap.size 2 i0 (.int .i64 0) 1 Try.underlying22 hi hz0 hz1 .i64 .i64 _ _ k rfl rfl ?c1 ?c2 ?c3 ?c4 ?c5 ?_)
          case c1 => rfl
          case c2 => rfl
          case c3 => rw [hz2]; omega
          case c4 => unfold maxLen; omega
          case c5 => exact Nat.le_refl _
          intro w4 hown hgrow
          have hb1 : Below w3.heap.size w3 w4 := (Below.refl _ _).grown hgrow (Nat.le_refl _) (fun k hk => by simp at hk)
          have hi1 := made_ints hown
          have hlt4 := HM.out.mi.lt
          have hM4 : OthM w b k (fun t => inB p j (t : Int) = false) f w4 := ⟨up2 HM.out.bel hb1, HM.out.mi.up hb1, HM.out.b0⟩
          have hwg : w.heap.size ≤ w3.heap.size := HM.out.bel.size
          obtain ⟨g, hg⟩ : ∃ g, g = w3.heap.size := ⟨_, rfl⟩
          rw [← hg] at hi1 hlt4 hwg ⊢
          have HI4 := Lib.hid hi1
          have HM4 := Lib.hid hM4
          have HG := Lib.hid hwg
          have HBG := Lib.hid hlt4
          clear hown hgrow hi1 hM4 hwg hlt4 hb1 hg HM
          go_wp2_with fail
          go_loopw [40] (fun vi wr => ∃ i : Nat, i ≤ k ∧ vi = .int .i64 i ∧ OthM w b k (fun t => inB p j (t : Int) = false) f wr ∧ Ints wr g k (upTo (othV f p j) i)) (fun vi _ => k - (intOf vi).toNat)
          case atStart => exact ⟨0, Nat.zero_le _, rfl, HM4.out, ints_same HI4.out fun t _ => by simp [upTo]⟩
          case round =>
            clear HM4 HI4
            obtain ⟨i, hik, rfl, hM, hI⟩ := hrel
            have HM := Lib.hid hM
            have HI := Lib.hid hI
            clear hM hI
            by_cases hlt : i < k
            · obtain ⟨v, hrun, hv1, hv2⟩ := HM.out.mi.look Try.underlying60 zeroI64m hn hlt
              have hv : v = .int .i64 (othV f p j i) := by
                unfold othV
                cases q : inB p j (i : Int) with
                | true => rw [hv2 (by simp [q])]; rfl
                | false => rw [hv1 q]; rfl
              subst hv
              obtain ⟨x, hx⟩ : ∃ x, x = othV f p j i := ⟨_, rfl⟩
              obtain ⟨y, hy⟩ : ∃ y, y = upTo (othV f p j) i i := ⟨_, rfl⟩
              have c3 := (HI.out i hlt).1
              have c4 := (HI.out i hlt).2
              rw [← hy] at c3
              rw [← hx] at hrun
              have HX := Lib.hid hx
              clear hv1 hv2 hx hy
              go_wp2_with fail
              go_roundw
              case rel => exact ⟨i + 1, by omega, by go_num, ⟨HM.out.bel.setCell HG.out _, HM.out.mi.off (by have := HBG.out; show b ≠ g; omega) _, HM.out.b0⟩, ints_same (ints_set HI.out hlt x) fun t _ => by rw [upTo_step, HX.out]⟩
              case measure => simp [intOf]; omega
            · have hie : i = k := by omega
              subst hie
              go_wp2_with fail
              go_ret
              exact ⟨g, rfl, HM.out.bel, HG.out, ints_same HI.out fun t ht => by rw [upTo, if_pos ht]⟩
end Go.Proofs.Ytbcdfkcgcaifjaa
