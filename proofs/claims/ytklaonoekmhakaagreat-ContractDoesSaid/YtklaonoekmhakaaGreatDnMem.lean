/- Charge. -/
import Derived.Laws.MakeOwn
import Derived.Test.YtklaonoekmhakaaGreatDuI
import Derived.Test.YtklaonoekmhakaaGreatI
import Derived.Test.YtklaonoekmhakaaGreatBoMath
import Derived.Test.YtklaonoekmhakaaGreatTrMath
import Derived.Test.YtklaonoekmhakaaGreatBoA
import Derived.Test.YtklaonoekmhakaaGreatBoD
namespace Go.Proofs.YtklaonoekmhakaaGreat
open Go.RowKit

theorem infoI64d : (Tryz.prog.info? 2).map (fun i => (i.zero, i.size, i.bytes)) = some (some (.int .i64 0), 1, 8) := by kernel_rfl
theorem infoIntd : (Tryz.prog.info? 3).map (fun i => (i.zero, i.size, i.bytes)) = some (some (.int .i64 0), 1, 8) := by kernel_rfl
/-- a block of integers that may be written -/
def IntsR (W : World) (g n : Nat) (f : Nat → Int) : Prop := ∀ t, t < n → W.cell? ⟨g, t, none⟩ = some (.int .i64 (f t)) ∧ W.frozen? ⟨g, t, none⟩ = false
theorem made_intsR {w1 : World} {base g n : Nat} {e : TypeId} (h : w1.ownsRow base e 1 (.slice (some ⟨g, 0, none⟩) n n) n (madeCells #[Value.int .i64 0] n).toList) : IntsR w1 g n (fun _ => 0) := by
  rw [toList_madeCells_one] at h
  intro t ht
  refine ⟨?_, h.frozenAt t⟩
  rw [h.cellAt t (by simpa using ht)]
  rw [List.getElem?_replicate]; simp; omega
theorem IntsR.up {W W' : World} {g n : Nat} {f : Nat → Int} (h : IntsR W g n f) (q : Below W.heap.size W W') : IntsR W' g n f := fun t ht =>
  ⟨kcell q (h t ht).1, (q.frozen (p := ⟨g, t, none⟩) (World.block_lt_of_cell? _ _ (h t ht).1)).trans (h t ht).2⟩
theorem IntsR.put {W : World} {g n : Nat} {f : Nat → Int} (h : IntsR W g n f) {k : Nat} (v : Int) {f' : Nat → Int} (hf : ∀ t, t < n → f' t = if t = k then v else f t) : IntsR (W.setCell ⟨g, k, none⟩ (.int .i64 v)) g n f' := fun t ht => by
  rw [hf t ht]
  by_cases q : t = k
  · subst q; rw [if_pos rfl]; exact ⟨csame (h t ht).1, fset (h t ht).2⟩
  · rw [if_neg q]; exact ⟨cset (h t ht).1 (.inr q), fset (h t ht).2⟩
def chF (l : List Ln) (k : Nat) : Int := (lnAt l k).ch
theorem lnAt_mem {l : List Ln} {P : Ln → Prop} (h : ∀ x ∈ l, P x) (h0 : P ⟨0, 0, 0, 0, 0⟩) (k : Nat) : P (lnAt l k) := by
  unfold lnAt
  cases q : l[k]? with
  | none => exact h0
  | some x => exact h x (List.mem_of_getElem? q)
/-- what Charge answers -/
def ChR (w : World) (l : List Ln) (e : Ending) (w' : World) : Prop := e = .returned (.tuple #[.int .i64 (tellV (sumTo (chF l) l.length)), .int .i64 (tellE (sumTo (chF l) l.length))]) ∧ Below w.heap.size w w'
set_option maxRecDepth 100000 in
set_option maxHeartbeats 2000000 in
theorem charge_any (a : Option Addr) (cap : Nat) (l : List Ln) (w : World) (hl : LnA w a l) (hn : l.length ≤ 1000) (hAm : ∀ x ∈ l, Am x.ch) : Calls Tryz.prog 67 #[.slice a l.length cap] w (ChR w l) := by
  have hf : Amounts (chF l) := fun k => lnAt_mem (P := fun x => Am x.ch) hAm (am_small (by decide) (by decide)) k
  have HF := Lib.hid hf
  have HL := Lib.hid hl
  obtain ⟨n, hnn⟩ : ∃ n, n = l.length := ⟨_, rfl⟩
  have HN := Lib.hid hnn
  unfold ChR
  rw [← hnn] at hn ⊢
  clear hf hl hAm hnn
  obtain ⟨i0, hi, hz0, hz1, hz2⟩ := info_parts infoI64d
  go_enter Tryz.func67, Tryz.ntmps67
  go_wp2_with (at_make; refine wpList_make_full _ rfl _ _ 64 rfl w.heap.size 2 i0 (.int .i64 0) 1 Tryz.underlying64 hi hz0 hz1 .i64 .i64 _ _ n rfl rfl ?c1 ?c2 ?c3 ?c4 ?c5 ?_)
  case c1 => rfl
  case c2 => rfl
  case c3 => rw [hz2]; omega
  case c4 => unfold maxLen; omega
  case c5 => exact Nat.le_refl _
  intro w1 hown hgrow
  have hb1 : Below w.heap.size w w1 := (Below.refl _ _).grown hgrow (Nat.le_refl _) (fun k hk => by simp at hk)
  have HI := Lib.hid (made_intsR hown)
  have HB := Lib.hid hb1
  obtain ⟨g, hg⟩ : ∃ g, g = w.heap.size := ⟨_, rfl⟩
  have HG : Hid (w.heap.size ≤ g) := by rw [hg]; exact Nat.le_refl _
  rw [← hg] at HI
  rw [← hg]
  clear hown hgrow hb1 hg hi hz0 hz1 hz2 i0
  go_wp2_with fail
  go_loopw [12] (fun i wr => ∃ k : Nat, k ≤ n ∧ i = .int .i64 (k : Int) ∧ IntsR wr g n (fun t => if t < k then chF l t else 0) ∧ Below w.heap.size w wr) (fun i _ => n - (intOf i).toNat)
  case atStart => exact ⟨0, Nat.zero_le _, rfl, by simpa using HI.out, HB.out⟩
  case round =>
    obtain ⟨k, hk, rfl, hI, hb⟩ := hrel
    have HIr := Lib.hid hI
    have HBr := Lib.hid hb
    clear hI hb
    by_cases hlt : k < n
    · obtain ⟨x, hx⟩ : ∃ x, l[k]? = some x := ⟨l[k]'(by rw [← HN.out]; exact hlt), List.getElem?_eq_getElem _⟩
      obtain ⟨b, o, ha, c0, c1, c2, c3, c4⟩ := ln_at (HL.out.up HBr.out) hx
      subst ha
      have hi2 := HIr.out.up (boxed wr (.cells #[.int .i64 x.it, .int .i64 x.un, .int .i64 x.ch, .int .i64 x.fi, .int .i64 x.la] 74))
      have g0 := (hi2 k hlt).1
      have g1 := (hi2 k hlt).2
      have hgl := World.block_lt_of_cell? _ _ (HIr.out k hlt).1
      have HX : Hid (chF l k = x.ch) := by unfold chF; rw [lnAt_some hx]; exact Lib.hid rfl
      have hk0 : (0 : Int) ≤ (k : Int) := by omega
      have e1 : IntKind.i64.wrap ((k : Int) + 1) = (k : Int) + 1 := IntWalk.i64_in _ (by omega)
      have hne : g ≠ wr.heap.size := by have : g < wr.heap.size := hgl; omega
      clear hx hi2
      go_wp2_with fail
      go_roundw
      case rel =>
        refine ⟨k + 1, by omega, by go_num, ?_, ?_⟩
        · refine (HIr.out.put x.ch (fun t _ => ?_)).up (boxed _ _)
          by_cases z : t = k
          · subst z; rw [if_pos (by omega), if_pos rfl]; exact HX.out
          · rw [if_neg z]
            by_cases y : t < k
            · rw [if_pos y, if_pos (by omega)]
            · rw [if_neg y, if_neg (by omega)]
        · have hs := HBr.out.setCell (p := ⟨g, k, none⟩) HG.out (.int .i64 x.ch)
          exact hs.alloc hs.size _
      case measure => simp [intOf]; omega
    · obtain rfl : k = n := by omega
      have HS := Lib.hid (sum_some (chF l) HF.out g 0 k k wr (by omega) (fun t ht => by rw [Nat.zero_add, (HIr.out t ht).1]; simp only; rw [if_pos ht]))
      go_wp2_with fail
      refine HS.out.mono ?_
      rintro e w2 ⟨rfl, hb2⟩
      have HB2 := Lib.hid (up2 HBr.out hb2)
      clear hb2
      go_wp2_with fail
      go_ret2
      exact ⟨rfl, HB2.out⟩
end Go.Proofs.YtklaonoekmhakaaGreat

namespace Go.Proofs.YtklaonoekmhakaaGreat
open Go.RowKit

/-- what may come -/
structure Mb where
  am : Int
  ch : Int
/-- is it sure enough? -/
def surB (b : Int) (x : Mb) : Bool := (decide (0 ≤ x.am) && decide (b ≤ x.ch)) || (decide (x.am < 0) && decide (10000 < x.ch + b))
def mbB (x : Mb) : Bool := decide (0 ≤ x.ch) && decide (x.ch ≤ 10000)
def wrE (f : Int) (l : List Mb) (b : Int) : Int := if 32 < l.length then 4 else if f < 0 ∨ b < 0 ∨ 10000 < b then 1 else if l.all mbB = true then 0 else 1
def sumM (g : Mb → Int) : List Mb → Int
  | [] => 0
  | x :: l => g x + sumM g l
theorem sumM_append (g : Mb → Int) (l l' : List Mb) : sumM g (l ++ l') = sumM g l + sumM g l' := by
  induction l with
  | nil => simp [sumM]
  | cons x l ih => simp only [List.cons_append, sumM, ih]; omega
def surA (b : Int) (x : Mb) : Int := if surB b x = true then x.am else 0
def likS (f : Int) (l : List Mb) (b : Int) : Int := f + sumM (surA b) l
def meaS (f : Int) (l : List Mb) : Int := f + sumM (fun x => x.am * x.ch) l / 10000
/-- a price that is a sum -/
def pricE (s : Int) : Int := if am64 s = true then if s < 0 then 1 else 0 else 3
def pricV (s : Int) : Int := if pricE s = 0 then s else 0
def likE (f : Int) (l : List Mb) (b : Int) : Int := if wrE f l b ≠ 0 then wrE f l b else pricE (likS f l b)
def likV (f : Int) (l : List Mb) (b : Int) : Int := if likE f l b = 0 then likS f l b else 0
def meaE (f : Int) (l : List Mb) : Int := if wrE f l 0 ≠ 0 then wrE f l 0 else pricE (meaS f l)
def meaV (f : Int) (l : List Mb) : Int := if meaE f l = 0 then meaS f l else 0
theorem pricE_zero {s : Int} (h : pricE s = 0) : am64 s = true ∧ 0 ≤ s := by
  unfold pricE at h
  split at h
  · rename_i q
    split at h
    · cases h
    · exact ⟨q, by omega⟩
  · cases h
/-- the program's words on what is sure enough -/
def surP (b : Int) (x : Mb) : Bool := if 0 < x.am then decide (b ≤ x.ch) else decide (10000 - b < x.ch)
def ptsS (b : Int) (x : Mb) : Int := if surP b x = true then 10000 else 0
theorem pts_sur (b : Int) (x : Mb) : x.am * ptsS b x = 10000 * surA b x := by
  unfold ptsS surP surA surB
  rcases Int.lt_trichotomy x.am 0 with h | h | h
  · have h1 : ¬ 0 < x.am := by omega
    have h2 : ¬ 0 ≤ x.am := by omega
    simp only [h, h1, h2, if_false, decide_false, decide_true, Bool.false_and, Bool.true_and, Bool.false_or, decide_eq_true_eq]
    split <;> split <;> omega
  · rw [h]; simp
  · have h1 : ¬ x.am < 0 := by omega
    have h2 : 0 ≤ x.am := by omega
    simp only [h, h1, h2, if_true, decide_false, decide_true, Bool.false_and, Bool.true_and, Bool.or_false, decide_eq_true_eq]
    split <;> omega
/-- a part by points, and its rest -/
def cP (c : Mb → Int) (x : Mb) : Int := x.am * c x / 10000
def cR (c : Mb → Int) (x : Mb) : Int := x.am * c x % 10000
theorem cR_in (c : Mb → Int) (x : Mb) : 0 ≤ cR c x ∧ cR c x ≤ 9999 := by unfold cR; omega
theorem parts_rests (c : Mb → Int) (l : List Mb) : sumM (fun x => x.am * c x) l = 10000 * sumM (cP c) l + sumM (cR c) l := by
  induction l with
  | nil => rfl
  | cons x l ih =>
    simp only [sumM, ih]
    have : 10000 * cP c x + cR c x = x.am * c x := Int.mul_ediv_add_emod _ _
    omega
theorem rests_in (c : Mb → Int) (l : List Mb) : 0 ≤ sumM (cR c) l ∧ sumM (cR c) l ≤ 9999 * (l.length : Int) := by
  induction l with
  | nil => simp [sumM]
  | cons x l ih =>
    have := cR_in c x
    simp only [sumM, List.length_cons]; omega
def sumL : List Int → Int
  | [] => 0
  | x :: l => x + sumL l
theorem sumL_append (l l' : List Int) : sumL (l ++ l') = sumL l + sumL l' := by
  induction l with
  | nil => simp [sumL]
  | cons x l ih => simp only [List.cons_append, sumL, ih]; omega
theorem sumL_map (g : Mb → Int) (l : List Mb) : sumL (l.map g) = sumM g l := by
  induction l with
  | nil => rfl
  | cons x l ih => simp only [List.map_cons, sumL, sumM, ih]
/-- what parts tells -/
def outP (c : Mb → Int) (l : List Mb) : List Int := l.map (cP c) ++ [sumM (cR c) l / 10000]
theorem outP_len (c : Mb → Int) (l : List Mb) : (outP c l).length = l.length + 1 := by simp [outP]
theorem outP_sum (c : Mb → Int) (l : List Mb) : sumL (outP c l) = sumM (fun x => x.am * c x) l / 10000 := by
  unfold outP
  rw [sumL_append, sumL_map, parts_rests]
  simp only [sumL]; omega
def totS (c : Mb → Int) (f : Int) (l : List Mb) : Int := f + sumM (fun x => x.am * c x) l / 10000
theorem sumM_congr {g h : Mb → Int} {l : List Mb} (H : ∀ x ∈ l, g x = h x) : sumM g l = sumM h l := by
  induction l with
  | nil => rfl
  | cons x l ih => simp only [sumM]; rw [H x (by simp), ih fun y hy => H y (by simp [hy])]
theorem sumM_times (k : Int) (g : Mb → Int) (l : List Mb) : sumM (fun x => k * g x) l = k * sumM g l := by
  induction l with
  | nil => simp [sumM]
  | cons x l ih => simp only [sumM, ih]; rw [Int.mul_add]
theorem tot_lik (f b : Int) (l : List Mb) : totS (ptsS b) f l = likS f l b := by
  unfold totS likS
  rw [sumM_congr (h := fun x => 10000 * surA b x) (fun x _ => pts_sur b x), sumM_times]
  omega
/-- a call's answer, whichever points count -/
def copE (c : Mb → Int) (f : Int) (l : List Mb) (b : Int) : Int := if wrE f l b ≠ 0 then wrE f l b else pricE (totS c f l)
def copV (c : Mb → Int) (f : Int) (l : List Mb) (b : Int) : Int := if copE c f l b = 0 then totS c f l else 0
theorem cop_lik (f b : Int) (l : List Mb) : copE (ptsS b) f l b = likE f l b ∧ copV (ptsS b) f l b = likV f l b := by
  have e : copE (ptsS b) f l b = likE f l b := by unfold copE likE; rw [tot_lik]
  exact ⟨e, by unfold copV likV; rw [e, tot_lik]⟩
def mbG (x : Mb) : Prop := Am x.am ∧ Am x.ch
/-- points of a fine list -/
structure Pts (c : Mb → Int) (l : List Mb) : Prop where
  pts : ∀ x ∈ l, 0 ≤ c x ∧ c x ≤ 10000
  am : ∀ x ∈ l, Am x.am
theorem cP_am {a p : Int} (ha : Am a) (h0 : 0 ≤ p) (h1 : p ≤ 10000) : Am (a * p / 10000) := by
  unfold Am at ha ⊢
  have a1 : a * p ≤ 9223372036854775807 * p := Int.mul_le_mul_of_nonneg_right ha.2 h0
  have a2 : -9223372036854775808 * p ≤ a * p := Int.mul_le_mul_of_nonneg_right ha.1 h0
  omega
theorem wrE_zero {f b : Int} {l : List Mb} (h : wrE f l b = 0) : l.length ≤ 32 ∧ 0 ≤ f ∧ 0 ≤ b ∧ b ≤ 10000 ∧ ∀ x ∈ l, 0 ≤ x.ch ∧ x.ch ≤ 10000 := by
  unfold wrE at h
  split at h
  · cases h
  · split at h
    · cases h
    · split at h
      · rename_i h1 h2 h3
        refine ⟨by omega, by omega, by omega, by omega, fun x hx => ?_⟩
        have := List.all_eq_true.1 h3 x hx
        simpa [mbB] using this
      · cases h
end Go.Proofs.YtklaonoekmhakaaGreat

namespace Go.Proofs.YtklaonoekmhakaaGreat
open Go.RowKit

def Du.dt (x : Du) : Dt := ⟨x.ls.map (fun (k : Nat) => (k : Int)), x.al, x.un, x.me, x.fi, x.la⟩
def du0 : Du := ⟨[], 0, 0, 0, 0, 0⟩
theorem sumD_ge {f : Nat → Int} {l : List Nat} (h : ∀ k ∈ l, 0 ≤ f k) : 0 ≤ sumD f l ∧ ∀ i ∈ l, f i ≤ sumD f l := by
  induction l with
  | nil => exact ⟨Int.le_refl _, fun i hi => by cases hi⟩
  | cons x l ih =>
    have h1 := h x (List.mem_cons_self ..)
    have h2 := ih fun k hk => h k (List.mem_cons_of_mem _ hk)
    refine ⟨by unfold sumD; omega, fun i hi => ?_⟩
    rcases List.mem_cons.1 hi with rfl | hi
    · unfold sumD; omega
    · have := h2.2 i hi
      unfold sumD; omega
section
variable {S : Bs} {l : List Ln} {d : Int}
theorem best_pos (F : FineB S) {i : Int} (hi : hasB S i = true) (d : Int) : 1 ≤ (best S i d).2 := by
  obtain ⟨_, h1, _⟩ := best_is S i d
  rcases h1 with h1 | ⟨x, hx, _, _, h1⟩
  · rw [h1]
    obtain ⟨a, b⟩ := hasB_iff.1 hi
    have hl : i.toNat < S.I.length := by omega
    have he : S.I[i.toNat]? = some (S.I[i.toNat]'hl) := List.getElem?_eq_getElem hl
    have hm := (F.items _ (List.getElem_mem hl)).1
    show 1 ≤ pri0 S i
    unfold pri0
    rw [he]
    unfold imB at hm
    simp only [Bool.and_eq_true, decide_eq_true_eq] at hm
    exact hm.2
  · rw [h1]
    exact (F.am x hx).1
theorem lnB_hold {x : Ln} (h : lnB S x = true) : hasB S x.it = true ∧ 1 ≤ x.un ∧ 0 ≤ x.ch ∧ 1 ≤ x.fi ∧ x.fi ≤ x.la ∧ x.la ≤ 1000000 := by
  unfold lnB at h
  simp only [Bool.and_eq_true, decide_eq_true_eq] at h
  exact ⟨h.1.1.1.1.1, h.1.1.1.1.2, h.1.1.1.2, h.1.1.2, h.1.2, h.2⟩
theorem alo_nn (F : FineB S) (x : Ln) (d : Int) : 0 ≤ aloV S x d := by
  unfold aloV
  by_cases h : lnB S x = false
  · rw [if_pos h]; exact Int.le_refl _
  · rw [if_neg h]
    by_cases h2 : d < 0
    · rw [if_pos h2]; exact Int.le_refl _
    · rw [if_neg h2]
      have hl := lnB_hold (S := S) (x := x) (by simpa using h)
      have hp : 0 ≤ priV S x.it d := by
        unfold priV
        split
        · have := best_pos F hl.1 d; omega
        · exact Int.le_refl _
      have hm : 0 ≤ priV S x.it d * x.un := Int.mul_nonneg hp (by omega)
      unfold tellV
      split <;> omega
theorem findE_zero (h : findE S l d = 0) : 0 ≤ d ∧ l.length ≤ 12 ∧ 0 < l.length ∧ (∀ x ∈ l, lnB S x = true) ∧ duOver S l d = false := by
  unfold findE at h
  split at h
  · cases h
  · split at h
    · rename_i q; exact absurd h q
    · rename_i q1 q2
      have hc : chkE S l = 0 := by simpa using q2
      split at h
      · cases h
      · rename_i q3
        unfold chkE at hc
        split at hc
        · cases hc
        · split at hc
          · cases hc
          · split at hc
            · rename_i q4
              exact ⟨by omega, by omega, by omega, fun x hx => List.all_eq_true.1 q4 x hx, by simpa using q3⟩
            · cases hc
theorem find_len (h : findE S l d = 0) : 0 < (findV S l d).length ∧ (findV S l d).length ≤ 12 := by
  obtain ⟨_, h1, h2, _, _⟩ := findE_zero h
  unfold findV
  rw [if_pos h]
  unfold duties
  rw [List.length_map]
  refine ⟨?_, ?_⟩
  · obtain ⟨i, hi, _⟩ := fst_ex (K := dKey S l) h2
    exact List.length_pos_iff.2 fun e => by rw [e] at hi; cases hi
  · have : (fsts (dKey S l) l.length).length ≤ l.length := by
      unfold fsts
      exact Nat.le_trans (List.length_filter_le _ _) (by simp)
    omega
/-- each obligation may be -/
theorem find_ok (F : FineB S) (h : findE S l d = 0) : ∀ x ∈ findV S l d, dtB x.dt = true ∧ x.un ≤ 9223372036854775807 ∧ 0 ≤ x.al ∧ x.al ≤ 9223372036854775807 ∧ x.ls.length ≤ 12 := by
  obtain ⟨h0, h1, h2, h3, h4⟩ := findE_zero h
  intro x hx
  unfold findV at hx
  rw [if_pos h] at hx
  have ho : am64 x.al = true ∧ am64 x.un = true := by
    unfold duOver at h4
    simp only [Bool.or_eq_false_iff] at h4
    have := List.any_eq_false.1 h4.2 x hx
    simpa using this
  unfold duties at hx
  obtain ⟨i, hi, rfl⟩ := List.mem_map.1 hx
  have hin := (mem_fsts.1 hi).1
  have him : i ∈ mems (dKey S l) l.length i := mem_mems.2 ⟨hin, rfl⟩
  have hl : ∀ k, k < l.length → lnB S (lnAt l k) = true := fun k hk => by
    rw [lnAt_some (List.getElem?_eq_getElem hk)]; exact h3 _ (List.getElem_mem hk)
  have hk : ∀ k ∈ mems (dKey S l) l.length i, k < l.length := fun k hk => (mem_mems.1 hk).1
  have hi0 := lnB_hold (hl i hin)
  have hme : 0 ≤ (imAt S (lnAt l i)).met ∧ (imAt S (lnAt l i)).met ≤ 3 := by
    obtain ⟨a, b⟩ := hasB_iff.1 hi0.1
    have hlt : (lnAt l i).it.toNat < S.I.length := by omega
    have hm := (F.items _ (List.getElem_mem hlt)).1
    unfold imAt
    rw [List.getElem?_eq_getElem hlt]
    unfold imB at hm
    simp only [Bool.and_eq_true, decide_eq_true_eq] at hm
    exact ⟨hm.1.1.2, hm.1.2⟩
  have hun : 1 ≤ sumD (fun k => (lnAt l k).un) (mems (dKey S l) l.length i) := by
    have := (sumD_ge (f := fun k => (lnAt l k).un) (l := mems (dKey S l) l.length i) fun k q => by have := (lnB_hold (hl k (hk k q))).2.1; show 0 ≤ (lnAt l k).un; omega).2 i him
    have := hi0.2.1
    omega
  have hal := (sumD_ge (f := fun k => aloV S (lnAt l k) d) (l := mems (dKey S l) l.length i) fun k _ => alo_nn F _ d).1
  obtain ⟨f1, a, ha, f2⟩ := minD_is (f := fun k => (lnAt l k).fi) him
  obtain ⟨g1, b, hb, g2⟩ := maxD_is (f := fun k => (lnAt l k).la) him
  have ha1 := lnB_hold (hl a (hk a ha))
  have hb1 := lnB_hold (hl b (hk b hb))
  have hf := f1 i him
  have hg := g1 i him
  have hlen : (mems (dKey S l) l.length i).length ≤ 12 := by
    unfold mems
    exact Nat.le_trans (List.length_filter_le _ _) (by simpa using h1)
  refine ⟨dtB_iff.2 ⟨hme.1, hme.2, hun, ?_, ?_, ?_⟩, (am64_iff.1 ho.2).2, hal, (am64_iff.1 ho.1).2, hlen⟩
  · show 1 ≤ minD _ _ _; omega
  · show maxD _ _ _ ≤ 1000000; omega
  · show minD _ _ _ ≤ maxD _ _ _; omega
end
theorem FineC.onw1 {S : Ct} {day more : Int} (h : FineC S) : FineC (S.onwS day more) := h.onw fun q => again_whole (Ct.onw0 q).2.2.2
theorem FineC.afr1 {S : Ct} {day more : Int} (h : FineC S) : FineC (S.afrS day more) := h.afr fun q => out_whole (Ct.afr0 q).2.2
/-- what a contract is asked for: of which book, which lines, what may come, a bound, a day -/
structure Askd where
  S : Bs
  l : List Ln
  m : List Mb
  b : Int
  d : Int
def Askd.D (x : Askd) : List Dt := (findV x.S x.l x.d).map Du.dt
def Askd.n (x : Askd) : Nat := (findV x.S x.l x.d).length
def Askd.alo (x : Askd) (t : Nat) : Int := ((findV x.S x.l x.d).getD t du0).al
def Askd.fix (x : Askd) : Int := tellV (sumTo (chF x.l) x.l.length)
def Askd.N (x : Askd) : Int := likV x.fix x.m x.b
def Askd.E (x : Askd) : Int :=
  if x.d < 1 ∨ 1000000 < x.d then 1 else if findE x.S x.l x.d ≠ 0 then findE x.S x.l x.d else if tellE (sumTo (chF x.l) x.l.length) ≠ 0 then tellE (sumTo (chF x.l) x.l.length)
  else if likE x.fix x.m x.b ≠ 0 then likE x.fix x.m x.b else allE x.N x.alo x.n
def Askd.C (x : Askd) : Ct := ⟨x.N, x.d, 0, x.D.mapIdx fun t d => ⟨d, [], [⟨0, 0, 0, outV x.N x.alo x.n t⟩]⟩⟩
structure AskOk (x : Askd) : Prop where
  d0 : 1 ≤ x.d
  d1 : x.d ≤ 1000000
  fnd : findE x.S x.l x.d = 0
  chg : tellE (sumTo (chF x.l) x.l.length) = 0
  lik : likE x.fix x.m x.b = 0
  N0 : 0 ≤ x.N
  N1 : x.N ≤ 9223372036854775807
  out : outE x.N x.alo x.n = 0
theorem Askd.zero {x : Askd} (h : x.E = 0) : AskOk x := by
  unfold Askd.E at h
  split at h
  · cases h
  · rename_i q0
    split at h
    · rename_i q; exact absurd h q
    · rename_i q1
      split at h
      · rename_i q; exact absurd h q
      · rename_i q2
        split at h
        · rename_i q; exact absurd h q
        · rename_i q3
          have hl : likE x.fix x.m x.b = 0 := by simpa using q3
          have hN : x.N = likS x.fix x.m x.b := by unfold Askd.N likV; rw [if_pos hl]
          have hp : pricE (likS x.fix x.m x.b) = 0 := by
            have hl2 := hl
            unfold likE at hl2
            split at hl2
            · rename_i q; exact absurd hl2 q
            · exact hl2
          have hz := pricE_zero hp
          unfold allE at h
          split at h
          · cases h
          · exact ⟨by omega, by omega, by simpa using q1, by simpa using q2, hl, by rw [hN]; exact hz.2, by rw [hN]; exact (am64_iff.1 hz.1).2, h⟩
theorem Askd.fine {x : Askd} (F : FineB x.S) (h : x.E = 0) : FineC x.C := by
  have O := Askd.zero h
  have hs : sumN (outV x.N x.alo x.n) x.n = x.N := out_whole O.out
  have hl := find_len O.fnd
  have hD : x.D.length = x.n := by unfold Askd.D Askd.n; rw [List.length_map]
  refine FineC.made (by rw [hD]; exact hl.1) (by rw [hD]; have : x.n ≤ 12 := hl.2; omega) O.N0 O.N1 O.d0 O.d1 (fun d hd => ?_) (fun t ht => ?_) (by rw [hD]; exact hs)
  · unfold Askd.D at hd
    obtain ⟨y, hy, rfl⟩ := List.mem_map.1 hd
    obtain ⟨e1, e2, e3, e4, _⟩ := find_ok F O.fnd y hy
    exact ⟨e1, e2, e3, e4⟩
  · rw [hD] at ht
    exact out_nn O.out O.N0 ht
end Go.Proofs.YtklaonoekmhakaaGreat

namespace Go.Proofs.YtklaonoekmhakaaGreat
open Go.RowKit

def inC (n : Int) : List Value := [.int .i64 n]
def tlC (x : Tl) : List Value := [.int .i64 x.1, .int .i64 x.2]
theorem in_len (n : Int) : (inC n).length = 1 := rfl
theorem tl_len (x : Tl) : (tlC x).length = 2 := rfl
theorem in_one (l : List Int) : ∀ u ∈ l.flatMap inC, u.oneCell' = true := fun u hu => by
  obtain ⟨x, _, hx⟩ := List.mem_flatMap.1 hu
  simp [inC] at hx
  rcases hx with rfl; rfl
theorem tl_one (l : List Tl) : ∀ u ∈ l.flatMap tlC, u.oneCell' = true := fun u hu => by
  obtain ⟨x, _, hx⟩ := List.mem_flatMap.1 hu
  simp [tlC] at hx
  rcases hx with rfl | rfl <;> rfl
/-- events that lie in a row; numbers that do -/
abbrev TlA (w : World) (a : Option Addr) (l : List Tl) : Prop := Rws tlC 2 w a l
abbrev InA (w : World) (a : Option Addr) (l : List Int) : Prop := Rws inC 1 w a l
theorem tl_at {w : World} {a : Option Addr} {l : List Tl} (h : TlA w a l) {j : Nat} {x : Tl} (hx : l[j]? = some x) : ∃ b o, a = some ⟨b, o, none⟩ ∧ w.cell? ⟨b, o + j * 2, none⟩ = some (.int .i64 x.1) ∧ w.cell? ⟨b, o + j * 2 + 1, none⟩ = some (.int .i64 x.2) := by
  rcases h with z | ⟨b, o, z, hz⟩
  · rw [z] at hx; simp at hx
  · exact ⟨b, o, z, hz j x hx 0 _ rfl, hz j x hx 1 _ rfl⟩
theorem in_at {w : World} {a : Option Addr} {l : List Int} (h : InA w a l) {j : Nat} {x : Int} (hx : l[j]? = some x) : ∃ b o, a = some ⟨b, o, none⟩ ∧ w.cell? ⟨b, o + j, none⟩ = some (.int .i64 x) := by
  rcases h with z | ⟨b, o, z, hz⟩
  · rw [z] at hx; simp at hx
  · refine ⟨b, o, z, ?_⟩
    have := hz j x hx 0 _ rfl
    rwa [Nat.mul_one, Nat.add_zero] at this
/-- an owned row's block isn't one of another type -/
theorem own_ne {w : World} {B T z n g T' : Nat} {v : Value} {xs : List Value} {cs : Array Value} (h : w.ownsRow B T z v n xs) (hh : Has w g T' cs) (hT : T ≠ T') : v.ownBlock ≠ some g := by
  rcases h.2 with ⟨rfl, _⟩ | ⟨g', cap, cur, rfl, _, h3, _⟩
  · simp [Value.ownBlock]
  · intro e
    have e : g' = g := by simpa [Value.ownBlock] using e
    subst e
    unfold Has at hh
    rw [hh] at h3
    injection h3 with h3
    injection h3 with _ e
    exact hT e.symm
theorem own_two {w : World} {B B' T T' z z' n n' : Nat} {v v' : Value} {xs xs' : List Value} (h : w.ownsRow B T z v n xs) (h' : w.ownsRow B' T' z' v' n' xs') (hT : T ≠ T') : v.ownBlock = none ∨ v.ownBlock ≠ v'.ownBlock := by
  rcases h'.2 with ⟨rfl, _⟩ | ⟨g', cap, cur, rfl, _, h3, _⟩
  · cases q : v.ownBlock with
    | none => exact .inl rfl
    | some g => exact .inr (by simp [Value.ownBlock])
  · exact .inr (own_ne h (cs := cur) h3 hT)
/-- an owned row in a world that goes on -/
theorem own_up {w w' : World} {B T z n : Nat} {v : Value} {xs : List Value} (h : w.ownsRow B T z v n xs) (q : Below w.heap.size w w') : w'.ownsRow B T z v n xs :=
  h.kept (grown_of q none) (by cases v.ownBlock <;> simp)
theorem own_form3 {w : World} {B T z n : Nat} {v : Value} {xs : List Value} (h : w.ownsRow B T z v n xs) : ∃ a c, v = .slice a n c ∧ (a = none → n = 0 ∧ c = 0) ∧ (∀ ad, a = some ad → ∃ g, ad = ⟨g, 0, none⟩) := by
  rcases h.2 with ⟨e1, e2⟩ | ⟨g, cap, cur, e, _⟩
  · exact ⟨none, 0, by rw [e1, e2], fun _ => ⟨e2, rfl⟩, fun ad e => by cases e⟩
  · exact ⟨_, cap, e, ⟨fun e => (by cases e), fun ad e => ⟨g, (Option.some.inj e).symm⟩⟩⟩
/-- a log in memory: its struct lies in block p -/
structure TgX (w : World) (B p : Nat) (d : Dt) (E : List Tl) (la : Option Addr) (lc : Nat) (tv : Value) : Prop where
  has : Has w p 154 #[.slice la d.ls.length lc, .int .i64 d.al, .int .i64 d.un, .int .i64 d.me, .int .i64 d.fi, .int .i64 d.la, tv]
  lns : w.ownsRow 0 3 1 (.slice la d.ls.length lc) d.ls.length (d.ls.flatMap inC)
  own : w.ownsRow B 165 2 tv E.length (E.flatMap tlC)
  fine : FineT d E
  nil0 : E = [] → tv = .slice none 0 0
section
variable {w w' : World} {B p : Nat} {d : Dt} {E : List Tl} {la : Option Addr} {lc : Nat} {tv : Value}
theorem TgX.up (h : TgX w B p d E la lc tv) (q : Below w.heap.size w w') : TgX w' B p d E la lc tv := ⟨h.has.up q, own_up h.lns q, own_up h.own q, h.fine, h.nil0⟩
theorem TgX.lt (h : TgX w B p d E la lc tv) : p < w.heap.size := h.has.lt
/-- what turns in a block beside -/
theorem TgX.off (h : TgX w B p d E la lc tv) {row : Option Nat} (q : w.grownBy w' row) (h1 : some p ≠ row) (h2 : (Value.slice la d.ls.length lc).ownBlock = none ∨ (Value.slice la d.ls.length lc).ownBlock ≠ row) (h3 : tv.ownBlock = none ∨ tv.ownBlock ≠ row) : TgX w' B p d E la lc tv :=
  ⟨(q.block p h.has.lt h1).trans h.has, h.lns.kept q h2, h.own.kept q h3, h.fine, h.nil0⟩
/-- the row of what was told -/
theorem TgX.row (h : TgX w B p d E la lc tv) : ∃ a c, tv = .slice a E.length c ∧ TlA w a E := by
  obtain ⟨a, c, e, _⟩ := own_form3 h.own
  subst e
  exact ⟨a, c, rfl, (own_rws tl_len h.own rfl).1⟩
theorem TgX.lines (h : TgX w B p d E la lc tv) : InA w la d.ls ∧ (la = none → lc = 0) := by
  refine ⟨(own_rws in_len h.lns rfl).1, fun e => ?_⟩
  obtain ⟨a, c, e1, h1, _⟩ := own_form3 h.lns
  injection e1 with e1 _ e3
  subst e1; subst e3
  exact (h1 e).2
end
/-- a log of a call's own, in a world that goes on from another one -/
structure Tg (w0 w : World) (p : Nat) (d : Dt) (E : List Tl) : Prop where
  x : ∃ la lc tv, TgX w w0.heap.size p d E la lc tv
  kp : w0.grownBy w (some p)
section
variable {w0 w w' : World} {p : Nat} {d : Dt} {E : List Tl}
theorem Tg.up (h : Tg w0 w p d E) (q : Below w.heap.size w w') : Tg w0 w' p d E := by
  obtain ⟨⟨la, lc, tv, h⟩, hk⟩ := h
  exact ⟨⟨la, lc, tv, h.up q⟩, grown_trans hk (grown_of q _)⟩
theorem Tg.fine (h : Tg w0 w p d E) : FineT d E := by obtain ⟨⟨_, _, _, h⟩, _⟩ := h; exact h.fine
theorem Tg.lt (h : Tg w0 w p d E) : p < w.heap.size := by obtain ⟨⟨_, _, _, h⟩, _⟩ := h; exact h.lt
/-- its struct is new: nothing that was there turned -/
theorem Tg.bel (h : Tg w0 w p d E) (hp : w0.heap.size ≤ p) : Below w0.heap.size w0 w :=
  ⟨h.kp.os, h.kp.tape, h.kp.output, h.kp.size, fun k hk => h.kp.block k hk (fun e => by injection e with e; omega)⟩
/-- another base: nothing was told yet -/
theorem Tg.base (h : Tg w0 w p d []) : Tg w w p d [] := by
  obtain ⟨⟨la, lc, tv, h⟩, _⟩ := h
  have e := h.nil0 rfl
  subst e
  exact ⟨⟨la, lc, _, h.has, h.lns, World.ownsRow_nil _ _ _ _, h.fine, h.nil0⟩, grown_of (Below.refl _ _) _⟩
end
end Go.Proofs.YtklaonoekmhakaaGreat
