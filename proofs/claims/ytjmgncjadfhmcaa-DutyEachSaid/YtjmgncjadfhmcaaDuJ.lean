/- Charge. -/
import Derived.Test.YtjmgncjadfhmcaaDuI
import Derived.Test.YtjmgncjadfhmcaaI
namespace Go.Proofs.Ytjmgncjadfhmcaa
open Go.RowKit

theorem infoI64d : (Try.prog.info? 2).map (fun i => (i.zero, i.size, i.bytes)) = some (some (.int .i64 0), 1, 8) := by kernel_rfl
theorem infoIntd : (Try.prog.info? 3).map (fun i => (i.zero, i.size, i.bytes)) = some (some (.int .i64 0), 1, 8) := by kernel_rfl
/-- a block of integers that may be written -/
def IntsR (W : World) (g n : Nat) (f : Nat → Int) : Prop := ∀ t, t < n → W.cell? ⟨g, t, none⟩ = some (.int .i64 (f t)) ∧ W.frozen? ⟨g, t, none⟩ = false
theorem made_intsR {w1 : World} {base g n : Nat} {e : TypeId} (h : w1.ownsRow base e 1 (.slice (some ⟨g, 0, none⟩) n n) n (madeCells #[Value.int .i64 0] n).toList) : IntsR w1 g n (fun _ => 0) := by
  rw [toList_madeCells_one] at h
  intro t ht
  refine ⟨?_, h.frozenAt t⟩
  rw [h.cellAt t (by simpa using ht)]
  rw [List.getElem?_replicate]; simp; omega
theorem IntsR.up {W W' : World} {g n : Nat} {f : Nat → Int} (h : IntsR W g n f) (q : Below W.heap.size W W') : IntsR W' g n f := fun t ht =>
  ⟨kcell q (h t ht).1, (q.frozen (p := ⟨g, t, none⟩) (World.block_lt_of_cell? _ _ (h t ht).1)).trans (h t ht).2⟩
theorem IntsR.put {W : World} {g n : Nat} {f : Nat → Int} (h : IntsR W g n f) {k : Nat} (v : Int) {f' : Nat → Int} (hf : ∀ t, t < n → f' t = if t = k then v else f t) : IntsR (W.setCell ⟨g, k, none⟩ (.int .i64 v)) g n f' := fun t ht => by
  rw [hf t ht]
  by_cases q : t = k
  · subst q; rw [if_pos rfl]; exact ⟨csame (h t ht).1, fset (h t ht).2⟩
  · rw [if_neg q]; exact ⟨cset (h t ht).1 (.inr q), fset (h t ht).2⟩
def chF (l : List Ln) (k : Nat) : Int := (lnAt l k).ch
theorem lnAt_mem {l : List Ln} {P : Ln → Prop} (h : ∀ x ∈ l, P x) (h0 : P ⟨0, 0, 0, 0, 0⟩) (k : Nat) : P (lnAt l k) := by
  unfold lnAt
  cases q : l[k]? with
  | none => exact h0
  | some x => exact h x (List.mem_of_getElem? q)
/-- what Charge answers -/
def ChR (w : World) (l : List Ln) (e : Ending) (w' : World) : Prop := e = .returned (.tuple #[.int .i64 (tellV (sumTo (chF l) l.length)), .int .i64 (tellE (sumTo (chF l) l.length))]) ∧ Below w.heap.size w w'
set_option maxRecDepth 100000 in
set_option maxHeartbeats 2000000 in
theorem charge_any (a : Option Addr) (cap : Nat) (l : List Ln) (w : World) (hl : LnA w a l) (hn : l.length ≤ 1000) (hAm : ∀ x ∈ l, Am x.ch) : Calls Try.prog 9 #[.slice a l.length cap] w (ChR w l) := by
  have hf : Amounts (chF l) := fun k => lnAt_mem (P := fun x => Am x.ch) hAm (am_small (by decide) (by decide)) k
  have HF := Lib.hid hf
  have HL := Lib.hid hl
  obtain ⟨n, hnn⟩ : ∃ n, n = l.length := ⟨_, rfl⟩
  have HN := Lib.hid hnn
  unfold ChR
  rw [← hnn] at hn ⊢
  clear hf hl hAm hnn
  obtain ⟨i0, hi, hz0, hz1, hz2⟩ := info_parts infoI64d
  go_enter Try.func9, Try.ntmps9
  go_wp2_with (at_make; refine wpList_make_full _ rfl _ _ 41 rfl w.heap.size 2 i0 (.int .i64 0) 1 Try.underlying41 hi hz0 hz1 .i64 .i64 _ _ n rfl rfl ?c1 ?c2 ?c3 ?c4 ?c5 ?_)
  case c1 => rfl
  case c2 => rfl
  case c3 => rw [hz2]; omega
  case c4 => unfold maxLen; omega
  case c5 => exact Nat.le_refl _
  intro w1 hown hgrow
  have hb1 : Below w.heap.size w w1 := (Below.refl _ _).grown hgrow (Nat.le_refl _) (fun k hk => by simp at hk)
  have HI := Lib.hid (made_intsR hown)
  have HB := Lib.hid hb1
  obtain ⟨g, hg⟩ : ∃ g, g = w.heap.size := ⟨_, rfl⟩
  have HG : Hid (w.heap.size ≤ g) := by rw [hg]; exact Nat.le_refl _
  rw [← hg] at HI
  rw [← hg]
  clear hown hgrow hb1 hg hi hz0 hz1 hz2 i0
  go_wp2_with fail
  go_loopw [12] (fun i wr => ∃ k : Nat, k ≤ n ∧ i = .int .i64 (k : Int) ∧ IntsR wr g n (fun t => if t < k then chF l t else 0) ∧ Below w.heap.size w wr) (fun i _ => n - (intOf i).toNat)
  case atStart => exact ⟨0, Nat.zero_le _, rfl, by simpa using HI.out, HB.out⟩
  case round =>
    obtain ⟨k, hk, rfl, hI, hb⟩ := hrel
    have HIr := Lib.hid hI
    have HBr := Lib.hid hb
    clear hI hb
    by_cases hlt : k < n
    · obtain ⟨x, hx⟩ : ∃ x, l[k]? = some x := ⟨l[k]'(by rw [← HN.out]; exact hlt), List.getElem?_eq_getElem _⟩
      obtain ⟨b, o, ha, c0, c1, c2, c3, c4⟩ := ln_at (HL.out.up HBr.out) hx
      subst ha
      have hi2 := HIr.out.up (boxed wr (.cells #[.int .i64 x.it, .int .i64 x.un, .int .i64 x.ch, .int .i64 x.fi, .int .i64 x.la] 45))
      have g0 := (hi2 k hlt).1
      have g1 := (hi2 k hlt).2
      have hgl := World.block_lt_of_cell? _ _ (HIr.out k hlt).1
      have HX : Hid (chF l k = x.ch) := by unfold chF; rw [lnAt_some hx]; exact Lib.hid rfl
      have hk0 : (0 : Int) ≤ (k : Int) := by omega
      have e1 : IntKind.i64.wrap ((k : Int) + 1) = (k : Int) + 1 := IntWalk.i64_in _ (by omega)
      have hne : g ≠ wr.heap.size := by have : g < wr.heap.size := hgl; omega
      clear hx hi2
      go_wp2_with fail
      go_roundw
      case rel =>
        refine ⟨k + 1, by omega, by go_num, ?_, ?_⟩
        · refine (HIr.out.put x.ch (fun t _ => ?_)).up (boxed _ _)
          by_cases z : t = k
          · subst z; rw [if_pos (by omega), if_pos rfl]; exact HX.out
          · rw [if_neg z]
            by_cases y : t < k
            · rw [if_pos y, if_pos (by omega)]
            · rw [if_neg y, if_neg (by omega)]
        · have hs := HBr.out.setCell (p := ⟨g, k, none⟩) HG.out (.int .i64 x.ch)
          exact hs.alloc hs.size _
      case measure => simp [intOf]; omega
    · obtain rfl : k = n := by omega
      have HS := Lib.hid (sum_some (chF l) HF.out g 0 k k wr (by omega) (fun t ht => by rw [Nat.zero_add, (HIr.out t ht).1]; simp only; rw [if_pos ht]))
      go_wp2_with fail
      refine HS.out.mono ?_
      rintro e w2 ⟨rfl, hb2⟩
      have HB2 := Lib.hid (up2 HBr.out hb2)
      clear hb2
      go_wp2_with fail
      go_ret2
      exact ⟨rfl, HB2.out⟩
end Go.Proofs.Ytjmgncjadfhmcaa
