/- Contracts: cmp.Compare, and the closure that compares two places' rests; the worlds of a row that is sorted. -/
import Derived.BigRegion
import Derived.Test.YtbcdfkcgcaifjaaU
import Derived.Test.YtbcdfkcgcaifjaaSoMb
namespace Go.Proofs.Ytbcdfkcgcaifjaa
open Go.RowKit

def cmpV (x y : Int) : Int := if x < y then -1 else if y < x then 1 else 0
theorem cmpV_neg {x y : Int} : cmpV x y < 0 ↔ x < y := by
  unfold cmpV; split
  · simp_all
  · split <;> simp_all <;> omega

theorem isNaN_any (x : Int) (w : World) : Calls Try.prog 64 #[.int .i64 x] w fun e w' => e = .returned (.bool false) ∧ w = w' := by
  go_enter Try.func64, Try.ntmps64
  go_wp2
  go_ret
  exact ⟨rfl, rfl⟩

set_option maxHeartbeats 400000 in
theorem compare_any (x y : Int) (w : World) : Calls Try.prog 57 #[.int .i64 x, .int .i64 y] w fun e w' => e = .returned (.int .i64 (cmpV x y)) ∧ w = w' := by
  by_cases h1 : x < y
  · have e : cmpV x y = -1 := by simp [cmpV, h1]
    rw [e]; clear e
    go_enter Try.func57, Try.ntmps57
    go_wp2_with (first | (go_at_call 64; refine (isNaN_any _ _).mono ?_; rintro e w' ⟨rfl, rfl⟩))
    go_ret
    exact ⟨rfl, rfl⟩
  · by_cases h2 : y < x
    · have e : cmpV x y = 1 := by simp [cmpV, h1, h2]
      rw [e]; clear e
      go_enter Try.func57, Try.ntmps57
      go_wp2_with (first | (go_at_call 64; refine (isNaN_any _ _).mono ?_; rintro e w' ⟨rfl, rfl⟩))
      go_ret
      exact ⟨rfl, rfl⟩
    · have e : cmpV x y = 0 := by simp [cmpV, h1, h2]
      rw [e]; clear e
      go_enter Try.func57, Try.ntmps57
      go_wp2_with (first | (go_at_call 64; refine (isNaN_any _ _).mono ?_; rintro e w' ⟨rfl, rfl⟩))
      go_ret
      exact ⟨rfl, rfl⟩

/-- the rests, in a box and a block of their own -/
def Rests (W : World) (rb g n : Nat) (K : Nat → Int) : Prop :=
  W.cell? ⟨rb, 0, none⟩ = some (.slice (some ⟨g, 0, none⟩) n n) ∧ ∀ t, t < n → W.cell? ⟨g, t, none⟩ = some (.int .i64 (K t))

set_option maxHeartbeats 400000 in
theorem by_rest {W : World} {rb g n : Nat} {K : Nat → Int} (h : Rests W rb g n K) (x y : Int) (x0 : 0 ≤ x) (x1 : x < n) (y0 : 0 ≤ y) (y1 : y < n) :
    Calls Try.prog 56 #[.int .i64 x, .int .i64 y, .pointer (some ⟨rb, 0, none⟩)] W fun e w' => e = .returned (.int .i64 (cmpV (K y.toNat) (K x.toNat))) ∧ ∃ q, w' = W.drewN q := by
  have hb := h.1
  have hx : W.cell? ⟨g, x.toNat, none⟩ = some (.int .i64 (K x.toNat)) := h.2 _ (by omega)
  have hy : W.cell? ⟨g, y.toNat, none⟩ = some (.int .i64 (K y.toNat)) := h.2 _ (by omega)
  clear h
  go_enter Try.func56, Try.ntmps56
  go_wp2_with fail
  go_quiet (first | (go_at_call 57; with_reducible exact quiet_left (compare_any _ _ _)))
  go_wp2_with fail
  go_ret
  exact ⟨rfl, nq, rfl⟩

/-- a row of integers that may be written -/
def Ints (W : World) (b n : Nat) (f : Nat → Int) : Prop := ∀ t, t < n → W.cell? ⟨b, t, none⟩ = some (.int .i64 (f t)) ∧ W.frozen? ⟨b, t, none⟩ = false
/-- but for one block a world as it was -/
structure But (b : Nat) (w w' : World) : Prop where
  os : w'.os = w.os
  tape : w'.tape = w.tape
  output : w'.output = w.output
  size : w'.heap.size = w.heap.size
  block : ∀ k, k ≠ b → w'.heap[k]? = w.heap[k]?
theorem But.refl (b : Nat) (w : World) : But b w w := ⟨rfl, rfl, rfl, rfl, fun _ _ => rfl⟩
theorem But.trans {b : Nat} {x y z : World} (h : But b x y) (k : But b y z) : But b x z :=
  ⟨k.os.trans h.os, k.tape.trans h.tape, k.output.trans h.output, k.size.trans h.size, fun i hi => (k.block i hi).trans (h.block i hi)⟩
theorem But.drewN {b : Nat} {x y : World} (h : But b x y) (n : Nat) : But b x (y.drewN n) := ⟨h.os, h.tape, h.output, h.size, h.block⟩
theorem But.drew {b : Nat} {x y : World} (h : But b x y) : But b x y.drew := ⟨h.os, h.tape, h.output, h.size, h.block⟩
theorem But.set {b : Nat} {x y : World} (h : But b x y) (t : Nat) (u : Value) : But b x (y.setCell ⟨b, t, none⟩ u) :=
  h.trans ⟨rfl, rfl, rfl, by simp [World.setCell], fun k hk => Below.heap_setCell _ _ _ _ hk⟩
theorem But.cell {b : Nat} {x y : World} (h : But b x y) {p : Addr} (hp : p.block ≠ b) : y.cell? p = x.cell? p := World.cell?_of_block (w := x) (h.block p.block hp)
theorem But.frozen {b : Nat} {x y : World} (h : But b x y) {p : Addr} (hp : p.block ≠ b) : y.frozen? p = x.frozen? p := World.frozen?_of_block (w := x) (h.block p.block hp)
theorem But.below {b B : Nat} {x y : World} (h : But b x y) (hb : B ≤ b) : Below B x y := ⟨h.os, h.tape, h.output, Nat.le_of_eq h.size.symm, fun k hk => h.block k (by omega)⟩
theorem Rests.but {b : Nat} {x y : World} {rb g n : Nat} {K : Nat → Int} (h : Rests x rb g n K) (k : But b x y) (h1 : rb ≠ b) (h2 : g ≠ b) : Rests y rb g n K :=
  ⟨(k.cell (p := ⟨rb, 0, none⟩) h1).trans h.1, fun t ht => (k.cell (p := ⟨g, t, none⟩) h2).trans (h.2 t ht)⟩

/-- the worlds of a sort: a row of places, beside the rests that it goes by -/
structure SW (w : World) (b n rb g : Nat) (K : Nat → Int) (f : Nat → Int) (W : World) : Prop where
  but : But b w W
  ints : Ints W b n f
  rests : Rests W rb g n K
  r1 : rb ≠ b
  r2 : g ≠ b
  fit : ∀ t, t < n → 0 ≤ f t ∧ f t < n
  small : n ≤ 1000000
variable {w W : World} {b n rb g : Nat} {K f : Nat → Int}
theorem SW.drewN (h : SW w b n rb g K f W) (q : Nat) : SW w b n rb g K f (W.drewN q) :=
  ⟨h.but.drewN q, h.ints, h.rests, h.r1, h.r2, h.fit, h.small⟩
theorem SW.cell (h : SW w b n rb g K f W) {t : Nat} (ht : t < n) : W.cell? ⟨b, t, none⟩ = some (.int .i64 (f t)) := (h.ints t ht).1
theorem SW.free (h : SW w b n rb g K f W) {t : Nat} (ht : t < n) : W.frozen? ⟨b, t, none⟩ = false := (h.ints t ht).2
theorem SW.cmp (h : SW w b n rb g K f W) {s t : Nat} (hs : s < n) (ht : t < n) (q : Nat) :
    Calls Try.prog 56 #[.int .i64 (f s), .int .i64 (f t), .pointer (some ⟨rb, 0, none⟩)] (W.drewN q) fun e w' => e = .returned (.int .i64 (cmpV (K (f t).toNat) (K (f s).toNat))) ∧ ∃ m, w' = W.drewN m := by
  have h1 := h.fit s hs; have h2 := h.fit t ht
  refine (by_rest (h.drewN q).rests (f s) (f t) h1.1 h1.2 h2.1 h2.2).mono ?_
  rintro e w' ⟨he, m, hm⟩
  exact ⟨he, q + m, by rw [hm]; simp [World.drewN, Nat.add_assoc]⟩
theorem ints_set (h : Ints W b n f) {t : Nat} (ht : t < n) (v : Int) : Ints (W.setCell ⟨b, t, none⟩ (.int .i64 v)) b n (fun s => if s = t then v else f s) := by
  intro s hs
  refine ⟨?_, by rw [World.frozen?_setCell]; exact (h s hs).2⟩
  by_cases e : s = t
  · subst e
    rw [World.cell?_setCell_same' _ _ _ (by rw [(h s hs).1]; rfl)]; simp
  · rw [World.cell?_setCell_other _ _ _ _ (by intro q; injection q; omega)]; simp only [if_neg e]; exact (h s hs).1
theorem SW.swp (h : SW w b n rb g K f W) {i j : Nat} (hi : i < n) (hj : j < n) (hne : i ≠ j) :
    SW w b n rb g K (swp f i j) ((W.drew.setCell ⟨b, i, none⟩ (.int .i64 (f j))).setCell ⟨b, j, none⟩ (.int .i64 (f i))) := by
  have hW : SW w b n rb g K f W.drew := ⟨h.but.drew, h.ints, h.rests, h.r1, h.r2, h.fit, h.small⟩
  have k : But b W.drew ((W.drew.setCell ⟨b, i, none⟩ (.int .i64 (f j))).setCell ⟨b, j, none⟩ (.int .i64 (f i))) := ((But.refl b _).set _ _).set _ _
  refine ⟨hW.but.trans k, ?_, hW.rests.but k h.r1 h.r2, h.r1, h.r2, ?_, h.small⟩
  · have := ints_set (ints_set hW.ints hi (f j)) hj (f i)
    intro s hs
    have q := this s hs
    unfold Ytbcdfkcgcaifjaa.swp
    by_cases e1 : s = i
    · simp only [e1, if_true] at q ⊢
      simpa [hne] using q
    · by_cases e2 : s = j
      · have e3 : ¬ j = i := fun q => hne q.symm
        simpa [e2, e3] using q
      · simpa [e1, e2] using q
  · intro t ht
    unfold Ytbcdfkcgcaifjaa.swp
    split
    · exact h.fit _ hj
    · split
      · exact h.fit _ hi
      · exact h.fit _ ht
end Go.Proofs.Ytbcdfkcgcaifjaa
