/- Again. -/
import Derived.Lib.SlBytesRow
import Derived.Lib.BufferWrite
import Derived.Laws.Rows
import Derived.Laws.MakeOwn
import Derived.Test.YtbcdfkcgcaifjaaAlA
import Derived.Test.YtbcdfkcgcaifjaaM
namespace Go.Proofs.Ytbcdfkcgcaifjaa
open Go.RowKit

def AgainPost (w : World) (total : Int) (d : Nat → Int) (n : Nat) (f : Nat → Int) (k : Nat) (e : Ending) (w' : World) : Prop :=
  Listed w (againE total d n f k) k (againV total d n f k) e w' ∧
    (againE total d n f k = 0 → Sorts k (restV (if 0 ≤ leaveV total d n then leaveV total d n else -leaveV total d n) f (sumN f k)))
theorem again_err {w w' : World} {total : Int} {d f : Nat → Int} {n k : Nat} {err : Int} {e : Ending} (h : againE total d n f k = err) (h0 : err ≠ 0) (hb : Below w.heap.size w w') (he : e = .returned (.tuple #[.slice none 0 0, .int .i64 err])) : AgainPost w total d n f k e w' := by
  unfold AgainPost; rw [h]; exact ⟨⟨hb, .inl ⟨h0, he⟩⟩, fun q => absurd q h0⟩
set_option maxRecDepth 100000 in
set_option maxHeartbeats 4000000 in
theorem again_any (total : Int) (d f : Nat → Int) (a c : Option Addr) (n k capa capc : Nat) (w : World) (hd : Amounts d) (hf : Amounts f) (ht : Am total) (hn : n ≤ 1000) (hA : Arg w a n d) (hC : Arg w c k f) :
    Calls Try.prog 14 #[.int .i64 total, .slice a n capa, .slice c k capc] w (AgainPost w total d n f k) := by
  by_cases hnk : n ≠ k
  · have HE : Hid (againE total d n f k = 1) := by show _ = _; unfold againE; rw [if_pos hnk]
    have z : ((n : Int) != (k : Int)) = true := by simp; omega
    clear hd hf ht hA hC hnk
    go_enter Try.func14, Try.ntmps14
    go_wp2_with fail
    go_ret2
    exact again_err HE.out (by decide) (Below.refl _ _) rfl
  · obtain rfl : n = k := Classical.byContradiction hnk
    have HL := Lib.hid (leave_any total d a n capa w hd ht hn hA)
    have HO := Lib.hid (fun (W : World) (q : Below w.heap.size w W) => out_any (leaveV total d n) f c n capc W hf (leave_am total d n).1 (leave_am total d n).2 (hC.up13 q))
    have HA := Lib.hid hA
    have HD := Lib.hid hd
    have HV : outE (leaveV total d n) f n = 0 → Hid (∀ t, t < n → Am (outV (leaveV total d n) f n t)) := fun q t ht => (out_facts (leave_am total d n).1 (leave_am total d n).2 q ht).2.2.2
    have HE1 : Hid (leaveE total d n ≠ 0 → againE total d n f n = 3) := fun q => by unfold againE; rw [if_neg hnk, if_pos q]
    have HE2 : Hid (leaveE total d n = 0 → outE (leaveV total d n) f n ≠ 0 → againE total d n f n = outE (leaveV total d n) f n) := fun q q2 => by unfold againE; rw [if_neg hnk, if_neg (by omega), if_pos q2]
    have HE3 : Hid (leaveE total d n = 0 → outE (leaveV total d n) f n = 0 → againE total d n f n = if overB d (outV (leaveV total d n) f n) n then 3 else 0) := fun q q2 => by unfold againE; rw [if_neg hnk, if_neg (by omega), if_neg (by omega)]
    clear hd hf ht hA hC hnk
    by_cases hl : leaveE total d n = 0
    · rw [hl] at HL
      have HLE := Lib.hid hl
      clear hl
      obtain ⟨L, hL⟩ : ∃ L, L = leaveV total d n := ⟨_, rfl⟩
      obtain ⟨v, hv⟩ : ∃ v, v = outV L f n := ⟨_, rfl⟩
      have HVA : Hid (againV total d n f n = fun t => d t + v t) := by show _ = _; funext t; unfold againV; rw [hv, hL]
      rw [← hL] at HL HO HE2 HE3 HV
      rw [← hv] at HO HE3 HV
      have HLd := Lib.hid hL
      clear hL hv HE1
      go_enter Try.func14, Try.ntmps14
      go_wp2_with fail
      refine HL.out.mono ?_
      rintro e w1 ⟨rfl, hb⟩
      have HB1 := Lib.hid hb
      clear hb HL
      go_wp2_with fail
      refine (HO.out _ HB1.out).mono ?_
      rintro e w2 ⟨⟨hb, h⟩, hs⟩
      have HB2 := Lib.hid (up2 HB1.out hb)
      have HS1 : Hid (w.heap.size ≤ w1.heap.size) := HB1.out.size
      have HS := Lib.hid hs
      clear hb HB1 HO hs
      rcases h with ⟨he, rfl⟩ | ⟨he, p, rfl, hp, hi⟩
      · have HX : Hid (againE total d n f n = outE L f n) := HE2.out HLE.out he
        have HY := Lib.hid he
        clear he HE3 HE2 HV
        obtain ⟨E, hE⟩ : ∃ E, E = outE L f n := ⟨_, rfl⟩
        rw [← hE] at HX HY ⊢
        have z : (E != 0) = true := by have := HY.out; simp [this]
        clear hE
        go_wp2_with fail
        go_ret2
        exact again_err HX.out HY.out HB2.out rfl
      · have HX := HE3.out HLE.out he
        have HXX := Lib.hid HX
        have HVV := HV he
        have HI := Lib.hid hi
        have HP : Hid (w.heap.size ≤ p) := by have := HS1.out; show _ ≤ _; omega
        have HS2 := Lib.hid (HS.out he)
        clear HX HV HE2 HE3 hi hp HS1 HS he
        go_wp2_with fail
        go_loopw [9, 38] (fun ve vi wr => ∃ i : Nat, i ≤ n ∧ vi = .int .i64 i ∧ ve = .int .i64 0 ∧ Below w.heap.size w wr ∧ Ints wr p n (fun t => if t < i then d t + v t else v t) ∧ Hid (overB d v i = false)) (fun _ vi _ => n - (intOf vi).toNat)
        case atStart => exact ⟨0, Nat.zero_le _, rfl, rfl, HB2.out, by simpa using HI.out, rfl⟩
        case round =>
          clear HB2 HI
          obtain ⟨i, hi, rfl, rfl, hB, hI, HOv⟩ := hrel
          have HB := Lib.hid hB
          have HI := Lib.hid hI
          clear hB hI
          by_cases hlt : i < n
          · obtain ⟨b, off, rfl, hr⟩ := HA.out (by omega)
            have c1 := kcell HB.out (hr i hlt)
            have c3 := (HI.out i hlt).1
            have c4 := (HI.out i hlt).2
            simp only [if_neg (show ¬ i < i by omega)] at c3
            have HAdd := Lib.hid (fun W => add_any (d i) (v i) W (HD.out i).1 (HD.out i).2 (HVV.out i hlt).1 (HVV.out i hlt).2)
            have hor := tellE_or (d i + v i)
            have HOv3 : Hid (tellE (d i + v i) = 3 → overB d v n = true) := fun q => overB_yes hlt q
            have HOv0 : Hid (tellE (d i + v i) = 0 → overB d v (i + 1) = false) := fun q => by
              show (overB d v i || decide (tellE (d i + v i) = 3)) = false
              rw [HOv.out, q]; rfl
            have HFt : Hid ((fun t => if t < i + 1 then d t + v t else v t) = fun t => if t = i then d i + v i else if t < i then d t + v t else v t) := by
              show _ = _
              funext t
              by_cases e : t = i
              · subst e; rw [if_pos (by omega), if_pos rfl]
              · rw [if_neg e]
                by_cases e2 : t < i
                · rw [if_pos e2, if_pos (by omega)]
                · rw [if_neg e2, if_neg (by omega)]
            obtain ⟨x, hx⟩ : ∃ x, x = d i := ⟨_, rfl⟩
            obtain ⟨y, hy⟩ : ∃ y, y = v i := ⟨_, rfl⟩
            rw [← hx] at c1 HAdd hor HOv3 HOv0 HFt
            rw [← hy] at c3 HAdd hor HOv3 HOv0 HFt
            clear hr hx hy
            rcases hor with ⟨e1, e2, _⟩ | ⟨e1, e2, _⟩
            · rw [e1, e2] at HAdd
              have HN := Lib.hid (HOv0.out e1)
              clear e1 e2 HOv0 HOv3
              go_wp2_with fail
              refine (HAdd.out _).mono ?_
              rintro e w3 ⟨rfl, hb⟩
              have HB3 := Lib.hid (up2 HB.out hb)
              have HI3 := Lib.hid (ints_up HI.out hb)
              have d3 := kcell hb c3
              have d4 := (HI3.out i hlt).2
              clear hb c1 c3 c4 HB HI HAdd
              go_wp2_with fail
              go_roundw
              case rel => exact ⟨i + 1, by omega, by go_num, rfl, HB3.out.setCell HP.out _, by rw [HFt.out]; exact ints_set HI3.out hlt (x + y), HN.out⟩
              case measure => simp [intOf]; omega
            · rw [e1, e2] at HAdd
              have HN : Hid (againE total d n f n = 3) := by show _ = _; rw [HXX.out, HOv3.out e1]; rfl
              clear e1 e2 HOv0 HOv3 HFt
              go_wp2_with fail
              refine (HAdd.out _).mono ?_
              rintro e w3 ⟨rfl, hb⟩
              have HB3 := Lib.hid (up2 HB.out hb)
              have HI3 := Lib.hid (ints_up HI.out hb)
              have d3 := kcell hb c3
              have d4 := (HI3.out i hlt).2
              clear hb c1 c3 c4 HB HI HAdd
              go_wp2_with fail
              go_ret2
              exact again_err HN.out (by decide) (HB3.out.setCell HP.out _) rfl
          · have hie : i = n := by omega
            subst hie
            have HN : Hid (againE total d i f i = 0) := by show _ = _; rw [HXX.out, HOv.out]; rfl
            clear hi hlt
            go_wp2_with fail
            go_ret2
            unfold AgainPost
            rw [HN.out, HVA.out, ← HLd.out]
            exact ⟨⟨HB.out, .inr ⟨rfl, p, rfl, HP.out, ints_same HI.out fun t ht => by rw [if_pos ht]⟩⟩, fun _ => HS2.out⟩
    · have HE : Hid (againE total d n f n = 3) := HE1.out hl
      rw [leave_err hl] at HL
      clear hl HE1 HE2 HE3 HV HO HA HD
      obtain ⟨L, hL⟩ : ∃ L, L = leaveV total d n := ⟨_, rfl⟩
      rw [← hL] at HL
      clear hL
      go_enter Try.func14, Try.ntmps14
      go_wp2_with fail
      refine HL.out.mono ?_
      rintro e w1 ⟨rfl, hb⟩
      have HB1 := Lib.hid hb
      clear hb HL
      go_wp2_with fail
      go_ret2
      exact again_err HE.out (by decide) HB1.out rfl
end Go.Proofs.Ytbcdfkcgcaifjaa

namespace Go.Proofs.Ytbcdfkcgcaifjaa
open Go.RowKit

/-- block g holds just the cells cs, of type t -/
def Has (w : World) (g t : Nat) (cs : Array Value) : Prop := w.heap[g]? = some (.cells cs t (0, 0))
theorem Has.lt {w : World} {g t : Nat} {cs : Array Value} (h : Has w g t cs) : g < w.heap.size := by
  unfold Has at h
  by_cases q : g < w.heap.size
  · exact q
  · rw [Array.getElem?_eq_none (by omega)] at h; cases h
theorem Has.cell {w : World} {g t : Nat} {cs : Array Value} (h : Has w g t cs) (i : Nat) : w.cell? ⟨g, i, none⟩ = cs[i]? := cell_of_row w g i cs t (0, 0) h
theorem Has.free {w : World} {g t : Nat} {cs : Array Value} (h : Has w g t cs) (i : Nat) : w.frozen? ⟨g, i, none⟩ = false := frozen_of_row w g i cs t h
theorem Has.ne {w : World} {g t g' t' : Nat} {cs cs' : Array Value} (h : Has w g t cs) (h' : Has w g' t' cs') (q : t ≠ t') : g ≠ g' := by
  rintro rfl
  unfold Has at h h'
  rw [h] at h'
  injection h' with h'
  injection h' with _ e
  exact q e
theorem Has.put {w : World} {g t : Nat} {cs : Array Value} (h : Has w g t cs) (i : Nat) (v : Value) : Has (w.setCell ⟨g, i, none⟩ v) g t (cs.setIfInBounds i v) := heap_setCell_same w g i cs t v h
theorem Has.off {w : World} {g t : Nat} {cs : Array Value} (h : Has w g t cs) {p : Addr} (q : g ≠ p.block) (v : Value) : Has (w.setCell p v) g t cs := (heap_setCell_other w p g v q).trans h
theorem Has.more {w : World} {g t : Nat} {cs : Array Value} (h : Has w g t cs) (o : Obj) : Has (w.alloc o) g t cs := (heap_alloc_old w o h.lt).trans h
theorem Has.fresh (w : World) (t : Nat) (cs : Array Value) : Has (w.alloc (.cells cs t)) w.heap.size t cs := heap_alloc_new w _

theorem Has.up {w w' : World} {g t : Nat} {cs : Array Value} (h : Has w g t cs) (q : Below w.heap.size w w') : Has w' g t cs := (q.block g h.lt).trans h
end Go.Proofs.Ytbcdfkcgcaifjaa
