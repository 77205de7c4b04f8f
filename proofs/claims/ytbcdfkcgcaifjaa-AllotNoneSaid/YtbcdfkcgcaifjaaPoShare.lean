/- Contracts: slices.Min, slices.Max, checkWeights, share. -/
import Derived.Test.YtbcdfkcgcaifjaaPoBy
namespace Go.Proofs.Ytbcdfkcgcaifjaa
open Go.RowKit

def minN (f : Nat → Int) : Nat → Int
  | 0 => f 0
  | k + 1 => min (minN f k) (f k)
def maxN (f : Nat → Int) : Nat → Int
  | 0 => f 0
  | k + 1 => max (maxN f k) (f k)
theorem minN_le (f : Nat → Int) {k n : Nat} (h : k < n) : minN f n ≤ f k := by
  induction n with
  | zero => omega
  | succ n ih =>
    simp only [minN]
    by_cases e : k = n
    · subst e; omega
    · have := ih (by omega); omega
theorem minN_is (f : Nat → Int) {n : Nat} (h : 0 < n) : ∃ k, k < n ∧ minN f n = f k := by
  induction n with
  | zero => omega
  | succ n ih =>
    simp only [minN]
    by_cases e : n = 0
    · subst e; exact ⟨0, by omega, by simp [minN]⟩
    · obtain ⟨k, k1, k2⟩ := ih (by omega)
      by_cases q : minN f n ≤ f n
      · exact ⟨k, by omega, by rw [← k2]; omega⟩
      · exact ⟨n, by omega, by omega⟩
theorem maxN_ge (f : Nat → Int) {k n : Nat} (h : k < n) : f k ≤ maxN f n := by
  induction n with
  | zero => omega
  | succ n ih =>
    simp only [maxN]
    by_cases e : k = n
    · subst e; omega
    · have := ih (by omega); omega
theorem maxN_is (f : Nat → Int) {n : Nat} (h : 0 < n) : ∃ k, k < n ∧ maxN f n = f k := by
  induction n with
  | zero => omega
  | succ n ih =>
    simp only [maxN]
    by_cases e : n = 0
    · subst e; exact ⟨0, by omega, by simp [maxN]⟩
    · obtain ⟨k, k1, k2⟩ := ih (by omega)
      by_cases q : f n ≤ maxN f n
      · exact ⟨k, by omega, by rw [← k2]; omega⟩
      · exact ⟨n, by omega, by omega⟩

/-- a row of amounts that is only read -/
def Row (W : World) (b off n : Nat) (f : Nat → Int) : Prop := ∀ k, k < n → W.cell? ⟨b, off + k, none⟩ = some (.int .i64 (f k))
theorem Row.below {W W' : World} {b off n : Nat} {f : Nat → Int} (h : Row W b off n f) (hb : Below W.heap.size W W') : Row W' b off n f := fun k hk => kcell hb (h k hk)

set_option maxHeartbeats 400000 in
theorem min_any (f : Nat → Int) (b off n cap : Nat) (w : World) (h0 : 0 < n) (hn : n ≤ 1000) (h : Row w b off n f) :
    Calls Try.prog 22 #[.slice (some ⟨b, off, none⟩) n cap] w fun e w' => e = .returned (.int .i64 (minN f n)) ∧ w = w' := by
  have c0 : w.cell? ⟨b, off, none⟩ = some (.int .i64 (f 0)) := by simpa using h 0 h0
  have HR := Lib.hid h
  clear h
  go_enter Try.func22, Try.ntmps22
  go_wp2_with fail
  go_loop [3, 4] (fun m i => ∃ k : Nat, 0 < k ∧ k ≤ n ∧ i = .int .i64 k ∧ m = .int .i64 (minN f k)) (fun _ i => n - (intOf i).toNat)
  case atStart => exact ⟨1, Nat.one_pos, h0, rfl, by simp [minN]⟩
  case round =>
    obtain ⟨k, hk0, hk, rfl, rfl⟩ := hrel
    by_cases hlt : k < n
    · have hc := HR.out k hlt
      go_wp2_with fail
      go_round
      case rel => exact ⟨k + 1, by omega, by omega, by go_num, by simp only [minN]; congr 1; split <;> omega⟩
      case measure => simp [intOf]; omega
    · have : k = n := by omega
      subst this
      go_wp2_with fail
      go_ret
      exact ⟨rfl, rfl⟩

set_option maxHeartbeats 400000 in
theorem max_any (f : Nat → Int) (b off n cap : Nat) (w : World) (h0 : 0 < n) (hn : n ≤ 1000) (h : Row w b off n f) :
    Calls Try.prog 47 #[.slice (some ⟨b, off, none⟩) n cap] w fun e w' => e = .returned (.int .i64 (maxN f n)) ∧ w = w' := by
  have c0 : w.cell? ⟨b, off, none⟩ = some (.int .i64 (f 0)) := by simpa using h 0 h0
  have HR := Lib.hid h
  clear h
  go_enter Try.func47, Try.ntmps47
  go_wp2_with fail
  go_loop [3, 4] (fun m i => ∃ k : Nat, 0 < k ∧ k ≤ n ∧ i = .int .i64 k ∧ m = .int .i64 (maxN f k)) (fun _ i => n - (intOf i).toNat)
  case atStart => exact ⟨1, Nat.one_pos, h0, rfl, by simp [maxN]⟩
  case round =>
    obtain ⟨k, hk0, hk, rfl, rfl⟩ := hrel
    by_cases hlt : k < n
    · have hc := HR.out k hlt
      go_wp2_with fail
      go_round
      case rel => exact ⟨k + 1, by omega, by omega, by go_num, by simp only [maxN]; congr 1; split <;> omega⟩
      case measure => simp [intOf]; omega
    · have : k = n := by omega
      subst this
      go_wp2_with fail
      go_ret
      exact ⟨rfl, rfl⟩

theorem check_full (a : Option Addr) (n cap : Nat) (w : World) (h : 64 < n) :
    Calls Try.prog 35 #[.slice a n cap] w fun e w' => e = .returned (.int .i64 4) ∧ w = w' := by
  have z : (64 : Int) < (n : Int) := by omega
  go_enter Try.func35, Try.ntmps35
  go_wp2_with fail
  go_ret
  exact ⟨rfl, rfl⟩
theorem check_none (a : Option Addr) (cap : Nat) (w : World) :
    Calls Try.prog 35 #[.slice a 0 cap] w fun e w' => e = .returned (.int .i64 1) ∧ w = w' := by
  go_enter Try.func35, Try.ntmps35
  go_wp2_with fail
  go_ret
  exact ⟨rfl, rfl⟩
set_option maxHeartbeats 400000 in
theorem check_some (f : Nat → Int) (b off n cap : Nat) (w : World) (h0 : 0 < n) (hn : n ≤ 64) (h : Row w b off n f) :
    Calls Try.prog 35 #[.slice (some ⟨b, off, none⟩) n cap] w fun e w' => e = .returned (.int .i64 (if minN f n < 0 ∨ maxN f n = 0 then 1 else 0)) ∧ w = w' := by
  have HR := Lib.hid h
  clear h
  have z1 : ¬ (64 : Int) < (n : Int) := by omega
  have z2 : ((n : Int) == 0) = false := by simp; omega
  by_cases e1 : minN f n < 0
  · rw [if_pos (.inl e1)]
    go_enter Try.func35, Try.ntmps35
    go_wp2_with (first | (go_at_call 22; refine (min_any f b off n cap _ h0 (by omega) HR.out).mono ?_; rintro e w' ⟨rfl, rfl⟩) | (go_at_call 47; refine (max_any f b off n cap _ h0 (by omega) HR.out).mono ?_; rintro e w' ⟨rfl, rfl⟩))
    go_ret
    exact ⟨rfl, rfl⟩
  · have e1z : decide (minN f n < 0) = false := by simp; omega
    by_cases e2 : maxN f n = 0
    · rw [if_pos (.inr e2)]
      have e2z : (maxN f n == 0) = true := by simp [e2]
      go_enter Try.func35, Try.ntmps35
      go_wp2_with (first | (go_at_call 22; refine (min_any f b off n cap _ h0 (by omega) HR.out).mono ?_; rintro e w' ⟨rfl, rfl⟩) | (go_at_call 47; refine (max_any f b off n cap _ h0 (by omega) HR.out).mono ?_; rintro e w' ⟨rfl, rfl⟩))
      go_ret
      exact ⟨rfl, rfl⟩
    · rw [if_neg (by omega)]
      have e2z : (maxN f n == 0) = false := by simp [e2]
      go_enter Try.func35, Try.ntmps35
      go_wp2_with (first | (go_at_call 22; refine (min_any f b off n cap _ h0 (by omega) HR.out).mono ?_; rintro e w' ⟨rfl, rfl⟩) | (go_at_call 47; refine (max_any f b off n cap _ h0 (by omega) HR.out).mono ?_; rintro e w' ⟨rfl, rfl⟩))
      go_ret
      exact ⟨rfl, rfl⟩
/-- share's blocks: the portions, and the rests -/
structure ShAt (w W : World) (p r n : Nat) (fp fr : Nat → Int) : Prop where
  bel : Below w.heap.size w W
  ip : Ints W p n fp
  ir : Ints W r n fr
  p0 : w.heap.size ≤ p
  r0 : w.heap.size ≤ r
  pr : p ≠ r
  pl : p < W.heap.size
  rl : r < W.heap.size
variable {w W W' : World} {p r n : Nat} {fp fr : Nat → Int}
theorem ints_up {W W' : World} {b n : Nat} {f : Nat → Int} (h : Ints W b n f) (hb : Below W.heap.size W W') : Ints W' b n f := fun t ht =>
  ⟨kcell hb (h t ht).1, (hb.frozen (p := ⟨b, t, none⟩) (World.block_lt_of_cell? (a := ⟨b, t, none⟩) _ (h t ht).1)).trans (h t ht).2⟩
theorem ints_but {W W' : World} {b c n : Nat} {f : Nat → Int} (h : Ints W b n f) (hb : But c W W') (hne : b ≠ c) : Ints W' b n f := fun t ht =>
  ⟨(hb.cell (p := ⟨b, t, none⟩) hne).trans (h t ht).1, (hb.frozen (p := ⟨b, t, none⟩) hne).trans (h t ht).2⟩
theorem ShAt.up (h : ShAt w W p r n fp fr) (hb : Below W.heap.size W W') : ShAt w W' p r n fp fr :=
  have s := hb.size
  have q := h.bel.size
  ⟨h.bel.trans (hb.mono q), ints_up h.ip hb, ints_up h.ir hb, h.p0, h.r0, h.pr, by have := h.pl; omega, by have := h.rl; omega⟩
theorem ShAt.putP (h : ShAt w W p r n fp fr) {k : Nat} (hk : k < n) (v : Int) : ShAt w (W.setCell ⟨p, k, none⟩ (.int .i64 v)) p r n (fun s => if s = k then v else fp s) fr := by
  have q : But p W (W.setCell ⟨p, k, none⟩ (.int .i64 v)) := (But.refl p W).set k _
  exact ⟨h.bel.setCell h.p0 _, ints_set h.ip hk v, ints_but h.ir q (fun e => h.pr e.symm), h.p0, h.r0, h.pr, by rw [q.size]; exact h.pl, by rw [q.size]; exact h.rl⟩
theorem ShAt.putR (h : ShAt w W p r n fp fr) {k : Nat} (hk : k < n) (v : Int) : ShAt w (W.setCell ⟨r, k, none⟩ (.int .i64 v)) p r n fp (fun s => if s = k then v else fr s) := by
  have q : But r W (W.setCell ⟨r, k, none⟩ (.int .i64 v)) := (But.refl r W).set k _
  exact ⟨h.bel.setCell h.r0 _, ints_but h.ip q h.pr, ints_set h.ir hk v, h.p0, h.r0, h.pr, by rw [q.size]; exact h.pl, by rw [q.size]; exact h.rl⟩
theorem ShAt.same {fp' fr' : Nat → Int} (h : ShAt w W p r n fp fr) (e1 : ∀ t, t < n → fp' t = fp t) (e2 : ∀ t, t < n → fr' t = fr t) : ShAt w W p r n fp' fr' :=
  ⟨h.bel, ints_same h.ip e1, ints_same h.ir e2, h.p0, h.r0, h.pr, h.pl, h.rl⟩
/-- the first ones of a row, 0 behind -/
def upTo (f : Nat → Int) (k : Nat) : Nat → Int := fun t => if t < k then f t else 0
theorem upTo_step (f : Nat → Int) (k t : Nat) : upTo f (k + 1) t = if t = k then f k else upTo f k t := by
  unfold upTo
  by_cases e : t = k
  · rw [if_pos e, if_pos (by omega), e]
  · rw [if_neg e]
    by_cases q : t < k
    · rw [if_pos q, if_pos (by omega)]
    · rw [if_neg q, if_neg (by omega)]

theorem Try.infoI64 : (Try.prog.info? 2).map (fun i => (i.zero, i.size, i.bytes)) = some (some (.int .i64 0), 1, 8) := by kernel_rfl
theorem tell_in {v : Int} (h1 : -9223372036854775808 ≤ v) (h2 : v ≤ 9223372036854775807) : tellV v = v ∧ tellE v = 0 := by
  unfold tellV tellE; rw [if_pos ⟨h1, h2⟩, if_pos ⟨h1, h2⟩]; exact ⟨rfl, rfl⟩

theorem toldV_bd (h : Nat → Int) (m t : Nat) : 0 ≤ toldV h m t ∧ toldV h m t ≤ m := by
  unfold toldV
  induction m with
  | zero => simp [sumN]
  | succ m ih => simp only [sumN]; split <;> omega
/-- the round in which one more is given -/
structure NxAt (w W : World) (p ab pb b n : Nat) (fv h : Nat → Int) (j : Int) : Prop where
  bel : Below w.heap.size w W
  ip : Ints W p n fv
  ca : W.cell? ⟨ab, 0, none⟩ = some (.int .i64 (j - 1))
  fa : W.frozen? ⟨ab, 0, none⟩ = false
  cp : W.cell? ⟨pb, 0, none⟩ = some (.slice (some ⟨b, 0, none⟩) n n)
  ib : Ints W b n h
  p0 : w.heap.size ≤ p
  a0 : w.heap.size ≤ ab
  e1 : p ≠ ab
  e2 : p ≠ b
  e3 : p ≠ pb
  e4 : pb ≠ ab
  e5 : b ≠ ab
theorem NxAt.next {w W : World} {p ab pb b n : Nat} {fv h : Nat → Int} {j : Nat} (q : NxAt w W p ab pb b n fv h j) : NxAt w (W.setCell ⟨ab, 0, none⟩ (.int .i64 (j : Int))) p ab pb b n fv h (j + 1) := by
  have k : But ab W (W.setCell ⟨ab, 0, none⟩ (.int .i64 (j : Int))) := (But.refl ab W).set 0 _
  refine ⟨q.bel.setCell q.a0 _, ints_but q.ip k q.e1, ?_, by rw [World.frozen?_setCell]; exact q.fa, (k.cell (p := ⟨pb, 0, none⟩) q.e4).trans q.cp, ints_but q.ib k q.e5, q.p0, q.a0, q.e1, q.e2, q.e3, q.e4, q.e5⟩
  rw [World.cell?_setCell_same' _ _ _ (by rw [q.ca]; rfl), show (j : Int) + 1 - 1 = j by omega]
theorem NxAt.put {w W : World} {p ab pb b n : Nat} {fv h : Nat → Int} {j : Int} (q : NxAt w W p ab pb b n fv h j) {x : Nat} (hx : x < n) (v : Int) : NxAt w (W.setCell ⟨p, x, none⟩ (.int .i64 v)) p ab pb b n (fun s => if s = x then v else fv s) h j := by
  have k : But p W (W.setCell ⟨p, x, none⟩ (.int .i64 v)) := (But.refl p W).set x _
  exact ⟨q.bel.setCell q.p0 _, ints_set q.ip hx v, (k.cell (p := ⟨ab, 0, none⟩) (fun e => q.e1 e.symm)).trans q.ca, (k.frozen (p := ⟨ab, 0, none⟩) (fun e => q.e1 e.symm)).trans q.fa, (k.cell (p := ⟨pb, 0, none⟩) (fun e => q.e3 e.symm)).trans q.cp, ints_but q.ib k (fun e => q.e2 e.symm), q.p0, q.a0, q.e1, q.e2, q.e3, q.e4, q.e5⟩
theorem NxAt.same {w W : World} {p ab pb b n : Nat} {fv fv' h : Nat → Int} {j j' : Int} (q : NxAt w W p ab pb b n fv h j) (e : ∀ t, t < n → fv' t = fv t) (ej : j' = j) : NxAt w W p ab pb b n fv' h j' := by
  subst ej
  exact ⟨q.bel, ints_same q.ip e, q.ca, q.fa, q.cp, q.ib, q.p0, q.a0, q.e1, q.e2, q.e3, q.e4, q.e5⟩

/-- a list of portions, told as new memory -/
def Shared (w : World) (n : Nat) (v : Nat → Int) (K : Nat → Int) (e : Ending) (w' : World) : Prop :=
  ∃ p, e = .returned (.slice (some ⟨p, 0, none⟩) n n) ∧ Below w.heap.size w w' ∧ w.heap.size ≤ p ∧ Ints w' p n v ∧ ∃ h, Piece n K h 0 n ∧ SameSum n h

set_option maxRecDepth 100000 in
set_option maxHeartbeats 2000000 in
theorem share_any (size s : Int) (f : Nat → Int) (b off n cap : Nat) (w : World) (hW : Weights f n s) (z0 : 0 ≤ size) (z1 : size ≤ 9223372036854775807) (s1 : s ≤ 9223372036854775807) (hn : n ≤ 64) (hr : Row w b off n f) :
    Calls Try.prog 36 #[.int .i64 size, .slice (some ⟨b, off, none⟩) n cap, .int .i64 s] w (Shared w n (shareV size f s n) (restV size f s)) := by
  obtain ⟨i0, hi, hz0, hz1, hz2⟩ := info_parts Try.infoI64
  have HW := Lib.hid hW
  have HR := Lib.hid hr
  have h0 := hW.n0
  clear hW hr
  go_enter Try.func36, Try.ntmps36
  go_wp2_with (at_make; refine wpList_make_full _ rfl _ _ 22 rfl w.heap.size 2 i0 (.int .i64 0) 1 Try.underlying22 hi hz0 hz1 .i64 .i64 _ _ n rfl rfl ?c1 ?c2 ?c3 ?c4 ?c5 ?_)
  case c1 => rfl
  case c2 => rfl
  case c3 => rw [hz2]; omega
  case c4 => unfold maxLen; omega
  case c5 => exact Nat.le_refl _
  intro w1 hown hgrow
  have hb1 : Below w.heap.size w w1 := (Below.refl _ _).grown hgrow (Nat.le_refl _) (fun k hk => by simp at hk)
  have hi1 := made_ints hown
  have HL1 := Lib.hid (World.block_lt_of_cell? (a := ⟨w.heap.size, 0, none⟩) _ (hi1 0 h0).1)
  have HI1 := Lib.hid hi1
  have HB1 := Lib.hid hb1
  clear hown hgrow hi1 hb1
  go_wp2_with (at_make; refine wpList_make_full _ rfl _ _ 22 rfl w1.heap.size 2 i0 (.int .i64 0) 1 Try.underlying22 hi hz0 hz1 .i64 .i64 _ _ n rfl rfl ?c1 ?c2 ?c3 ?c4 ?c5 ?_)
  case c1 => rfl
  case c2 => rfl
  case c3 => omega
  case c4 => unfold maxLen; omega
  intro w2 hown hgrow
  have hb2 : Below w1.heap.size w1 w2 := (Below.refl _ _).grown hgrow (Nat.le_refl _) (fun k hk => by simp at hk)
  have hi2 := made_ints hown
  have hl2 := World.block_lt_of_cell? (a := ⟨w1.heap.size, 0, none⟩) _ (hi2 0 h0).1
  have HS : Hid (ShAt w w2 w.heap.size w1.heap.size n (upTo (partV size f s) 0) (upTo (restV size f s) 0)) := by
    have e1 := HL1.out; have e2 := hb2.size; have e3 := HB1.out.size
    simp only at hl2 e1
    exact ⟨HB1.out.trans (hb2.mono e3), ints_same (ints_up HI1.out hb2) (fun t _ => by simp [upTo]), ints_same hi2 (fun t _ => by simp [upTo]), Nat.le_refl _, e3, by omega, by omega, hl2⟩
  obtain ⟨p, hp⟩ : ∃ p, p = w.heap.size := ⟨_, rfl⟩
  obtain ⟨r, hr⟩ : ∃ r, r = w1.heap.size := ⟨_, rfl⟩
  have HS2 : Hid (ShAt w w2 p r n (upTo (partV size f s) 0) (upTo (restV size f s) 0)) := by rw [hp, hr]; exact HS.out
  rw [← hp, ← hr]
  clear HS hown hgrow hi2 hb2 hl2 HB1 HI1 HL1 hp hr
  go_wp2_with fail
  go_loopw [9, 22] (fun vm vi wr => ∃ k : Nat, k ≤ n ∧ vi = .int .i64 k ∧ vm = .int .i64 (size - sumN (partV size f s) k) ∧ ShAt w wr p r n (upTo (partV size f s) k) (upTo (restV size f s) k)) (fun _ vi _ => n - (intOf vi).toNat)
  case atStart => exact ⟨0, Nat.zero_le _, rfl, by simp [sumN], HS2.out⟩
  case round =>
    clear HS2
    obtain ⟨k, hk, rfl, rfl, hS⟩ := hrel
    have HS := Lib.hid hS
    clear hS
    by_cases hlt : k < n
    · have c0 : wr.cell? ⟨b, off + k, none⟩ = some (.int .i64 (f k)) := kcell HS.out.bel (HR.out k hlt)
      have HF : Hid (0 ≤ f k ∧ f k ≤ 9223372036854775807) := ⟨HW.out.pos k hlt, by have := sumN_term HW.out.pos hlt; rw [HW.out.sum] at this; omega⟩
      have HP : Hid (tellV (size * f k / s) = partV size f s k) := by
        have a1 := HW.out.part0 z0 hlt; have a2 := HW.out.room z0 hlt; have a3 := HW.out.miss0 (size := size)
        exact (tell_in (v := partV size f s k) (by omega) (by omega)).1
      go_wp2_with fail
      refine (part_any size (f k) s _ (by omega) (by omega) HF.out.1 HF.out.2 (by have := HW.out.s0; omega) s1).mono ?_
      rintro e w3 ⟨rfl, hb3⟩
      rw [HP.out]
      have HS3 := Lib.hid (HS.out.up hb3)
      clear HS hb3 HP c0
      have c1 := (HS3.out.ip k hlt).1
      have c2 := (HS3.out.ip k hlt).2
      obtain ⟨pv, hpv⟩ : ∃ pv, pv = partV size f s k := ⟨_, rfl⟩
      rw [← hpv]
      have HPV := Lib.hid hpv
      clear hpv
      have HS4 := Lib.hid (HS3.out.putP hlt pv)
      go_wp2_with fail
      clear HS3 c1 c2
      obtain ⟨W4, hW4⟩ : ∃ W4, W4 = w3.setCell ⟨p, k, none⟩ (.int .i64 pv) := ⟨_, rfl⟩
      rw [← hW4] at HS4 ⊢
      clear hW4
      refine (rest_any size (f k) s _ (by omega) (by omega) HF.out.1 HF.out.2 (by have := HW.out.s0; omega) s1).mono ?_
      rintro e w5 ⟨rfl, hb5⟩
      obtain ⟨rv, hrv⟩ : ∃ rv, rv = size * f k % s := ⟨_, rfl⟩
      rw [← hrv]
      have HRV := Lib.hid hrv
      clear hrv
      have HS5 := Lib.hid (HS4.out.up hb5)
      clear HS4 hb5
      have c1 := (HS5.out.ir k hlt).1
      have c2 := (HS5.out.ir k hlt).2
      have HS6 := Lib.hid (HS5.out.putR hlt rv)
      have HC3 : Hid (∀ v, (w5.setCell ⟨r, k, none⟩ v).cell? ⟨p, k, none⟩ = some (.int .i64 pv)) := by
        intro v
        rw [((But.refl r w5).set k v).cell (p := ⟨p, k, none⟩) HS5.out.pr]
        have := (HS5.out.ip k hlt).1
        rwa [if_pos rfl] at this
      have c3 := HC3.out (.int .i64 rv)
      have HWR : Hid (IntKind.i64.wrap (size - sumN (partV size f s) k - pv) = size - sumN (partV size f s) (k + 1)) := by
        have a1 := HW.out.left z0 (k := k + 1) (by omega)
        simp only [sumN] at a1 ⊢
        show IntKind.i64.wrap _ = _
        rw [HPV.out, IntKind.wrap_i64]; omega
      have hwr := HWR.out
      go_wp2_with fail
      go_roundw
      case rel =>
        refine ⟨k + 1, by omega, by go_num, rfl, HS6.out.same (fun t ht => ?_) (fun t ht => ?_)⟩
        · rw [upTo_step, HPV.out]
        · rw [upTo_step, HRV.out]; rfl
      case measure => simp [intOf]; omega
    · have hke : k = n := by omega
      subst hke
      have HZ := Lib.hid (HW.out.miss1 (size := size))
      have HZ0 := Lib.hid (HW.out.miss0 (size := size))
      obtain ⟨M, hM⟩ : ∃ M : Nat, (M : Int) = missV size f s k := ⟨(missV size f s k).toNat, by have := HZ0.out; omega⟩
      have hMe : size - sumN (partV size f s) k = (M : Int) := hM.symm
      have HMm := Lib.hid hM
      have hMk : M < k := by have := HZ.out; omega
      rw [hMe]
      clear hM hMe HZ HZ0
      go_wp2_with fail
      refine (byRest_any wr r k (restV size f s) h0 hn HS.out.rl (fun t ht => by have := (HS.out.ir t ht).1; rwa [upTo, if_pos ht] at this)).mono ?_
      rintro e w3 ⟨ab, pb, pl, h, rfl, hb3, a1, a2, a3, a4, a5, a6, a7, a8, a9, hP, hQ⟩
      have HX : Hid (NxAt w w3 p ab pb pl k (fun t => partV size f s t + toldV h 0 t) h 0) := by
        have q := HS.out.up hb3
        have e1 := HS.out.pl
        exact ⟨q.bel, ints_same q.ip (fun t ht => by rw [upTo, if_pos ht]; simp [toldV, sumN]), a6, a7, a8, a9, q.p0, by have := HS.out.bel.size; omega, by omega, by omega, by omega, a4, a5⟩
      have HP := Lib.hid hP
      have HQ := Lib.hid hQ
      clear hb3 a1 a2 a3 a4 a5 a6 a7 a8 a9 hP hQ HS
      go_wp2_with fail
      go_loopw [57] (fun vj wr => ∃ j : Nat, j ≤ M ∧ vj = .int .i64 j ∧ NxAt w wr p ab pb pl k (fun t => partV size f s t + toldV h j t) h j) (fun vj _ => M - (intOf vj).toNat)
      case atStart => exact ⟨0, Nat.zero_le _, rfl, HX.out⟩
      case round =>
        clear HX
        obtain ⟨j, hj, rfl, hX⟩ := hrel
        have HX := Lib.hid hX
        clear hX
        by_cases hjm : j < M
        · have hjz : (j : Int) < (M : Int) := by omega
          go_wp2_with fail
          refine (next_any wr ab pb pl k j h (by omega) (by omega) HX.out.ca HX.out.fa HX.out.cp (HX.out.ib j (by omega)).1 HX.out.e4 HX.out.e5).mono ?_
          rintro e w4 ⟨rfl, hw4⟩
          have HX4 : Hid (NxAt w w4 p ab pb pl k (fun t => partV size f s t + toldV h j t) h (j + 1)) := by rw [hw4]; exact HX.out.next
          clear HX hw4
          obtain ⟨x, hx⟩ : ∃ x : Nat, h j = (x : Int) := ⟨(h j).toNat, by have := HP.out.2 j (Nat.zero_le _) (by omega); omega⟩
          have hxk : x < k := by have := HP.out.2 j (Nat.zero_le _) (by omega); omega
          rw [hx]
          have HXJ := Lib.hid hx
          clear hx
          have c1 := (HX4.out.ip x hxk).1
          have c2 := (HX4.out.ip x hxk).2
          obtain ⟨g, hg⟩ : ∃ g, g = partV size f s x + toldV h j x := ⟨_, rfl⟩
          rw [← hg] at c1
          have HG := Lib.hid hg
          clear hg
          have i1 : IntKind.i64.wrap (g + 1) = g + 1 := by
            have b1 := toldV_bd h j x; have b2 := HW.out.part0 z0 hxk; have b3 := HW.out.room z0 hxk; have b4 := HMm.out; have b5 := HG.out
            rw [IntKind.wrap_i64]; omega
          have hxz : (x : Int) < (k : Int) := by omega
          go_wp2_with fail
          go_roundw
          case rel =>
            refine ⟨j + 1, by omega, by go_num, (HX4.out.put hxk (g + 1)).same (fun t ht => ?_) (by omega)⟩
            have e0 : toldV h (j + 1) t = toldV h j t + if h j = (t : Int) then 1 else 0 := rfl
            rw [e0, HXJ.out]
            by_cases e : t = x
            · rw [if_pos e, if_pos (by omega), e, HG.out]; omega
            · rw [if_neg e, if_neg (by omega)]; omega
          case measure => simp [intOf]; omega
        · have hje : j = M := by omega
          subst hje
          have hjz : ¬ (j : Int) < (j : Int) := by omega
          go_wp2_with fail
          go_ret
          refine ⟨p, rfl, HX.out.bel, HX.out.p0, ints_same HX.out.ip (fun t ht => ?_), h, HP.out, HQ.out⟩
          rw [told_is HP.out HQ.out (by omega) ht]
          unfold shareV
          rw [← HMm.out]
end Go.Proofs.Ytbcdfkcgcaifjaa
