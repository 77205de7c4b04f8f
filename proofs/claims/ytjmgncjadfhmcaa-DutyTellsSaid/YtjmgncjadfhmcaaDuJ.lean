/- Contracts: Sum. -/
import Derived.Test.YtjmgncjadfhmcaaBoD
import Derived.Test.YtjmgncjadfhmcaaDuI
namespace Go.Proofs.Ytjmgncjadfhmcaa
open Go.RowKit

/-- the sum of the first ones of a row of numbers -/
def sumTo (f : Nat → Int) : Nat → Int
  | 0 => 0
  | k + 1 => sumTo f k + f k
def Amounts (f : Nat → Int) : Prop := ∀ k, -9223372036854775808 ≤ f k ∧ f k ≤ 9223372036854775807
theorem sum_bd {f : Nat → Int} (hf : Amounts f) (k : Nat) : -9223372036854775808 * (k : Int) ≤ sumTo f k ∧ sumTo f k ≤ 9223372036854775808 * (k : Int) := by
  induction k with
  | zero => simp [sumTo]
  | succ k ih => have h := hf k; simp only [sumTo]; omega
theorem sum_ok {f : Nat → Int} (hf : Amounts f) {k : Nat} (hk : k ≤ 1048576) : wideOk (sumTo f k) := by
  have h := sum_bd hf k; unfold wideOk; omega

/-- two cells in a row that may be written -/
def Row2 (W : World) (p : Nat) (x y : Value) : Prop :=
  W.cell? ⟨p, 0, none⟩ = some x ∧ W.cell? ⟨p, 1, none⟩ = some y ∧ W.frozen? ⟨p, 0, none⟩ = false ∧ W.frozen? ⟨p, 1, none⟩ = false
theorem Row2.lt {W : World} {p : Nat} {x y : Value} (h : Row2 W p x y) : p < W.heap.size := World.block_lt_of_cell? (a := ⟨p, 0, none⟩) _ h.1
theorem Row2.drew {W : World} {p : Nat} {x y : Value} (h : Row2 W p x y) : Row2 W.drew p x y := h
theorem Row2.below {W W' : World} {p : Nat} {x y : Value} (h : Row2 W p x y) (hb : Below W.heap.size W W') : Row2 W' p x y :=
  have l := h.lt
  ⟨kcell hb h.1, kcell hb h.2.1, (hb.frozen (p := ⟨p, 0, none⟩) l).trans h.2.2.1, (hb.frozen (p := ⟨p, 1, none⟩) l).trans h.2.2.2⟩
theorem Row2.put {W : World} {p : Nat} {x y : Value} (h : Row2 W p x y) (x' y' : Value) : Row2 ((W.setCell ⟨p, 0, none⟩ x').setCell ⟨p, 1, none⟩ y') p x' y' := by
  obtain ⟨h0, h1, f0, f1⟩ := h
  unfold Row2; simp [go_sem, h0, h1, f0, f1]
theorem Row2.new (W : World) (x y : Value) (t : Nat) : Row2 (W.alloc (.cells #[x, y] t)) W.heap.size x y := by
  unfold Row2; simp [go_sem]

/-- what holds at the loop's head -/
def SumAt (w : World) (v : Int) (wr : World) : Prop := Below w.heap.size w wr ∧ Row2 wr w.heap.size (.int .u64 (hiW v)) (.int .u64 (loW v))
theorem SumAt.drew {w : World} {v : Int} {wr : World} (h : SumAt w v wr) : SumAt w v wr.drew := ⟨h.1.drew, h.2⟩
theorem SumAt.below {w : World} {v : Int} {wr w1 : World} (h : SumAt w v wr) (hb : Below wr.heap.size wr w1) : SumAt w v w1 :=
  ⟨h.1.trans (hb.mono (by have := h.2.lt; omega)), h.2.below hb⟩
theorem SumAt.put {w : World} {v : Int} {wr : World} (h : SumAt w v wr) (u : Int) : SumAt w u ((wr.setCell ⟨w.heap.size, 0, none⟩ (.int .u64 (hiW u))).setCell ⟨w.heap.size, 1, none⟩ (.int .u64 (loW u))) :=
  ⟨(h.1.setCell (Nat.le_refl _) _).setCell (Nat.le_refl _) _, h.2.put _ _⟩
theorem SumAt.start (w : World) : SumAt w 0 (w.alloc (.cells #[.int .u64 0, .int .u64 0] 78)) := ⟨(Below.refl _ _).alloc (Nat.le_refl _) _, Row2.new _ _ _ _⟩

set_option maxHeartbeats 400000 in
theorem sum_some (f : Nat → Int) (hf : Amounts f) (b off len cap : Nat) (w : World) (hl : len ≤ 1048576) (hc : ∀ k, k < len → w.cell? ⟨b, off + k, none⟩ = some (.int .i64 (f k))) :
    Calls Try.prog 15 #[.slice (some ⟨b, off, none⟩) len cap] w fun e w' => e = .returned (.tuple #[.int .i64 (tellV (sumTo f len)), .int .i64 (tellE (sumTo f len))]) ∧ Below w.heap.size w w' := by
  have HC := Lib.hid hc
  have HF := Lib.hid hf
  clear hc hf
  go_enter Try.func15, Try.ntmps15
  go_wp2_with fail
  go_loopw [6, 9] (fun _ i wr => ∃ k : Nat, k ≤ len ∧ i = .int .i64 k ∧ SumAt w (sumTo f k) wr) (fun _ i _ => len - (intOf i).toNat)
  case atStart => exact ⟨0, Nat.zero_le _, rfl, SumAt.start w⟩
  case round =>
    obtain ⟨k, hk, rfl, hS⟩ := hrel
    have HS := Lib.hid hS
    clear hS
    by_cases hlt : k < len
    · have hcell : wr.cell? ⟨b, off + k, none⟩ = some (.int .i64 (f k)) :=
        (HS.out.1.cell (p := ⟨b, off + k, none⟩) (World.block_lt_of_cell? (a := ⟨b, off + k, none⟩) _ (HC.out k hlt))).trans (HC.out k hlt)
      obtain ⟨f1, f2⟩ := HF.out k
      obtain ⟨c0, c1, e0, e1⟩ := HS.out.2
      go_wp2_with fail
      go_region_with (first | (go_at_call 32; ((with_reducible refine (widen_any (f k) _ f1 f2).mono ?_); rintro e w1 ⟨rfl, hb1⟩; have kS1 := Lib.hid (HS.out.drew.below hb1); obtain ⟨x0, x1, y0, y1⟩ := kS1.out.2)) | (go_at_call 31; ((with_reducible refine (plus_any (sumTo f k) (f k) _).mono ?_); rintro e w2 ⟨rfl, hb2⟩; have kS2 := Lib.hid (kS1.out.below hb2); obtain ⟨z0, z1, t0, t1⟩ := kS2.out.2)))
      all_goals
        go_wp2_with fail
        go_roundw
        case rel => exact ⟨k + 1, by omega, by go_num, kS2.out.put (sumTo f (k + 1))⟩
        case measure => simp [intOf]; omega
    · obtain ⟨c0, c1, e0, e1⟩ := HS.out.2
      have hke : k = len := by omega
      subst hke
      go_wp2_with fail
      refine (narrow_any (sumTo f k) _ (sum_ok HF.out hl)).mono ?_
      rintro e w2 ⟨rfl, hb2⟩
      go_wp2_with fail
      go_ret2
      exact ⟨rfl, HS.out.1.trans (hb2.mono (by have := HS.out.2.lt; omega))⟩

set_option maxHeartbeats 400000 in
theorem sum_nil (w : World) :
    Calls Try.prog 15 #[.slice none 0 0] w fun e w' => e = .returned (.tuple #[.int .i64 0, .int .i64 0]) ∧ Below w.heap.size w w' := by
  go_enter Try.func15, Try.ntmps15
  go_wp2_with fail
  go_loopw [6, 9] (fun _ i wr => i = .int .i64 0 ∧ SumAt w 0 wr) (fun _ _ _ => 0)
  case atStart => exact ⟨rfl, SumAt.start w⟩
  case round =>
    obtain ⟨rfl, hS⟩ := hrel
    have HS := Lib.hid hS
    clear hS
    obtain ⟨c0, c1, e0, e1⟩ := HS.out.2
    go_wp2_with fail
    refine (narrow_fit 0 _ (by omega) (by omega)).mono ?_
    rintro e w2 ⟨rfl, hb2⟩
    go_wp2_with fail
    go_ret2
    exact ⟨rfl, HS.out.1.trans (hb2.mono (by have := HS.out.2.lt; omega))⟩
end Go.Proofs.Ytjmgncjadfhmcaa

namespace Go.Proofs.Ytjmgncjadfhmcaa
open Go.RowKit

theorem infoI64d : (Try.prog.info? 2).map (fun i => (i.zero, i.size, i.bytes)) = some (some (.int .i64 0), 1, 8) := by kernel_rfl
theorem infoIntd : (Try.prog.info? 3).map (fun i => (i.zero, i.size, i.bytes)) = some (some (.int .i64 0), 1, 8) := by kernel_rfl
/-- a block of integers that may be written -/
def IntsR (W : World) (g n : Nat) (f : Nat → Int) : Prop := ∀ t, t < n → W.cell? ⟨g, t, none⟩ = some (.int .i64 (f t)) ∧ W.frozen? ⟨g, t, none⟩ = false
theorem made_intsR {w1 : World} {base g n : Nat} {e : TypeId} (h : w1.ownsRow base e 1 (.slice (some ⟨g, 0, none⟩) n n) n (madeCells #[Value.int .i64 0] n).toList) : IntsR w1 g n (fun _ => 0) := by
  rw [toList_madeCells_one] at h
  intro t ht
  refine ⟨?_, h.frozenAt t⟩
  rw [h.cellAt t (by simpa using ht)]
  rw [List.getElem?_replicate]; simp; omega
theorem IntsR.up {W W' : World} {g n : Nat} {f : Nat → Int} (h : IntsR W g n f) (q : Below W.heap.size W W') : IntsR W' g n f := fun t ht =>
  ⟨kcell q (h t ht).1, (q.frozen (p := ⟨g, t, none⟩) (World.block_lt_of_cell? _ _ (h t ht).1)).trans (h t ht).2⟩
theorem IntsR.put {W : World} {g n : Nat} {f : Nat → Int} (h : IntsR W g n f) {k : Nat} (v : Int) {f' : Nat → Int} (hf : ∀ t, t < n → f' t = if t = k then v else f t) : IntsR (W.setCell ⟨g, k, none⟩ (.int .i64 v)) g n f' := fun t ht => by
  rw [hf t ht]
  by_cases q : t = k
  · subst q; rw [if_pos rfl]; exact ⟨csame (h t ht).1, fset (h t ht).2⟩
  · rw [if_neg q]; exact ⟨cset (h t ht).1 (.inr q), fset (h t ht).2⟩
def chF (l : List Ln) (k : Nat) : Int := (lnAt l k).ch
theorem lnAt_mem {l : List Ln} {P : Ln → Prop} (h : ∀ x ∈ l, P x) (h0 : P ⟨0, 0, 0, 0, 0⟩) (k : Nat) : P (lnAt l k) := by
  unfold lnAt
  cases q : l[k]? with
  | none => exact h0
  | some x => exact h x (List.mem_of_getElem? q)
/-- what Charge answers -/
def ChR (w : World) (l : List Ln) (e : Ending) (w' : World) : Prop := e = .returned (.tuple #[.int .i64 (tellV (sumTo (chF l) l.length)), .int .i64 (tellE (sumTo (chF l) l.length))]) ∧ Below w.heap.size w w'
set_option maxRecDepth 100000 in
set_option maxHeartbeats 2000000 in
theorem charge_any (a : Option Addr) (cap : Nat) (l : List Ln) (w : World) (hl : LnA w a l) (hn : l.length ≤ 1000) (hAm : ∀ x ∈ l, Am x.ch) : Calls Try.prog 9 #[.slice a l.length cap] w (ChR w l) := by
  have hf : Amounts (chF l) := fun k => lnAt_mem (P := fun x => Am x.ch) hAm (am_small (by decide) (by decide)) k
  have HF := Lib.hid hf
  have HL := Lib.hid hl
  obtain ⟨n, hnn⟩ : ∃ n, n = l.length := ⟨_, rfl⟩
  have HN := Lib.hid hnn
  unfold ChR
  rw [← hnn] at hn ⊢
  clear hf hl hAm hnn
  obtain ⟨i0, hi, hz0, hz1, hz2⟩ := info_parts infoI64d
  go_enter Try.func9, Try.ntmps9
  go_wp2_with (at_make; refine wpList_make_full _ rfl _ _ 41 rfl w.heap.size 2 i0 (.int .i64 0) 1 Try.underlying41 hi hz0 hz1 .i64 .i64 _ _ n rfl rfl ?c1 ?c2 ?c3 ?c4 ?c5 ?_)
  case c1 => rfl
  case c2 => rfl
  case c3 => rw [hz2]; omega
  case c4 => unfold maxLen; omega
  case c5 => exact Nat.le_refl _
  intro w1 hown hgrow
  have hb1 : Below w.heap.size w w1 := (Below.refl _ _).grown hgrow (Nat.le_refl _) (fun k hk => by simp at hk)
  have HI := Lib.hid (made_intsR hown)
  have HB := Lib.hid hb1
  obtain ⟨g, hg⟩ : ∃ g, g = w.heap.size := ⟨_, rfl⟩
  have HG : Hid (w.heap.size ≤ g) := by rw [hg]; exact Nat.le_refl _
  rw [← hg] at HI
  rw [← hg]
  clear hown hgrow hb1 hg hi hz0 hz1 hz2 i0
  go_wp2_with fail
  go_loopw [12] (fun i wr => ∃ k : Nat, k ≤ n ∧ i = .int .i64 (k : Int) ∧ IntsR wr g n (fun t => if t < k then chF l t else 0) ∧ Below w.heap.size w wr) (fun i _ => n - (intOf i).toNat)
  case atStart => exact ⟨0, Nat.zero_le _, rfl, by simpa using HI.out, HB.out⟩
  case round =>
    obtain ⟨k, hk, rfl, hI, hb⟩ := hrel
    have HIr := Lib.hid hI
    have HBr := Lib.hid hb
    clear hI hb
    by_cases hlt : k < n
    · obtain ⟨x, hx⟩ : ∃ x, l[k]? = some x := ⟨l[k]'(by rw [← HN.out]; exact hlt), List.getElem?_eq_getElem _⟩
      obtain ⟨b, o, ha, c0, c1, c2, c3, c4⟩ := ln_at (HL.out.up HBr.out) hx
      subst ha
      have hi2 := HIr.out.up (boxed wr (.cells #[.int .i64 x.it, .int .i64 x.un, .int .i64 x.ch, .int .i64 x.fi, .int .i64 x.la] 45))
      have g0 := (hi2 k hlt).1
      have g1 := (hi2 k hlt).2
      have hgl := World.block_lt_of_cell? _ _ (HIr.out k hlt).1
      have HX : Hid (chF l k = x.ch) := by unfold chF; rw [lnAt_some hx]; exact Lib.hid rfl
      have hk0 : (0 : Int) ≤ (k : Int) := by omega
      have e1 : IntKind.i64.wrap ((k : Int) + 1) = (k : Int) + 1 := IntWalk.i64_in _ (by omega)
      have hne : g ≠ wr.heap.size := by have : g < wr.heap.size := hgl; omega
      clear hx hi2
      go_wp2_with fail
      go_roundw
      case rel =>
        refine ⟨k + 1, by omega, by go_num, ?_, ?_⟩
        · refine (HIr.out.put x.ch (fun t _ => ?_)).up (boxed _ _)
          by_cases z : t = k
          · subst z; rw [if_pos (by omega), if_pos rfl]; exact HX.out
          · rw [if_neg z]
            by_cases y : t < k
            · rw [if_pos y, if_pos (by omega)]
            · rw [if_neg y, if_neg (by omega)]
        · have hs := HBr.out.setCell (p := ⟨g, k, none⟩) HG.out (.int .i64 x.ch)
          exact hs.alloc hs.size _
      case measure => simp [intOf]; omega
    · obtain rfl : k = n := by omega
      have HS := Lib.hid (sum_some (chF l) HF.out g 0 k k wr (by omega) (fun t ht => by rw [Nat.zero_add, (HIr.out t ht).1]; simp only; rw [if_pos ht]))
      go_wp2_with fail
      refine HS.out.mono ?_
      rintro e w2 ⟨rfl, hb2⟩
      have HB2 := Lib.hid (up2 HBr.out hb2)
      clear hb2
      go_wp2_with fail
      go_ret2
      exact ⟨rfl, HB2.out⟩
end Go.Proofs.Ytjmgncjadfhmcaa
