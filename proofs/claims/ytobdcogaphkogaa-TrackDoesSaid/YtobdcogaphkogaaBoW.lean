/- Arguments: what is read of them. -/
import Derived.ProofKit
import Derived.OpenShut
import Derived.ShutString
import Derived.ChangeOld
import Derived.ChangeSlices
import Derived.SizedLaws
import Derived.Deep.Slices
import Derived.Deep.Fields
import Derived.Test.YtobdcogaphkogaaKit
import Derived.Test.YtobdcogaphkogaaBoMem
namespace Go.Proofs.Ytobdcogaphkogaa
open Go.ChangeShapes Go.WideShapes Go.ChangeAt Go.RowKit Go.Deep

theorem own : ownKnob Try.prog.godebug = none := by kernel_rfl
theorem laidOut : laidOutB Try.prog = true := by kernel_rfl
theorem cInt : Try.prog.cellsOf 3 = 1 := by kernel_rfl
theorem cI64 : Try.prog.cellsOf 2 = 1 := by kernel_rfl

theorem plain_addr {w : World} {a : Addr} {v : Value} (h : w.cell? (a.add 0) = some v) : ∃ b o, a = ⟨b, o, none⟩ := by
  obtain ⟨b, o, sp⟩ := a
  cases sp with
  | none => exact ⟨b, o, rfl⟩
  | some u =>
    exfalso
    simp only [Addr.add] at h
    unfold World.cell? at h
    split at h <;> simp at h
theorem addr_at (b off : Nat) (k : Nat) : (⟨b, off, none⟩ : Addr).add k = ⟨b, off + k, none⟩ := by
  unfold Addr.add
  split
  · subst k; rfl
  · rfl
/-- rows of things that came in, one behind another -/
theorem list_of {α : Type} {p : Nat → α → Prop} : ∀ n : Nat, (∀ i, i < n → ∃ x, p i x) → ∃ l : List α, l.length = n ∧ ∀ i x, l[i]? = some x → p i x
  | 0, _ => ⟨[], rfl, fun i x h => by simp at h⟩
  | n + 1, h => by
    obtain ⟨l, hl, hp⟩ := list_of n fun i hi => h i (by omega)
    obtain ⟨x, hx⟩ := h n (by omega)
    refine ⟨l ++ [x], by simp [hl], fun i y hy => ?_⟩
    rcases Nat.lt_or_ge i n with r | r
    · rw [List.getElem?_append_left (by omega)] at hy
      exact hp i y hy
    · rw [List.getElem?_append_right (by omega)] at hy
      have : i = n := by
        rcases Nat.eq_or_lt_of_le r with q | q
        · exact q.symm
        · rw [List.getElem?_eq_none (by simp; omega)] at hy; cases hy
      subst this
      rw [hl, Nat.sub_self] at hy
      simp at hy
      subst hy
      exact hx
end Go.Proofs.Ytobdcogaphkogaa

namespace Go.Proofs.Ytobdcogaphkogaa
open Go.ChangeShapes Go.WideShapes Go.ChangeAt Go.RowKit Go.Deep

section
variable {H : Type} {enc : TypeId × Value → H} {W : World} {base : Nat} {spare : Nat → Bool} {held : Bool}
/-- a list of structs that came in -/
theorem rows_read {α : Type} {c : α → List Value} {good : α → Prop} {z : Nat} {T tS : TypeId} (hS : Try.prog.underlying tS = some (.slice T)) (hC : Try.prog.cellsOf T = z) (hz0 : 0 < z) (hz : ∀ x, (c x).length = z)
    (hr : ∀ (fuel : Nat) (cs : List Value) (y : DataW H × List MemPlace), DataW.trod enc Try.prog W base spare held fuel T cs = some y → ∃ x : α, cs = c x ∧ good x)
    {fuel : Nat} {a : Option Addr} {len cap : Nat} {y : DataW H × List MemPlace} (h : DataW.trod enc Try.prog W base spare held fuel tS [.slice a len cap] = some y) :
    ∃ l : List α, l.length = len ∧ Rws c z W a l ∧ (∀ x ∈ l, good x) ∧ (a = none → cap = 0) := by
  rcases open_slice hS h with ⟨hcs, _⟩ | ⟨x, l0, c0, m, n, D, Pl, hcs, _, hl, hm, hmm, _, hi⟩
  · simp at hcs
    obtain ⟨rfl, rfl, rfl⟩ := hcs
    exact ⟨[], rfl, .inl rfl, fun x hx => (by cases hx), fun _ => rfl⟩
  · simp at hcs
    obtain ⟨rfl, rfl, rfl⟩ := hcs
    have hlm : len ≤ m := by rw [hmm]; split <;> omega
    rcases Nat.eq_zero_or_pos len with q | q
    · subst q
      exact ⟨[], rfl, .inl rfl, fun x hx => (by cases hx), fun e => (by cases e)⟩
    obtain ⟨b, o, rfl⟩ : ∃ b o, x = ⟨b, o, none⟩ := by
      obtain ⟨cs0, hc0, ht0⟩ := hi 0 (by omega)
      rw [hC] at hc0
      obtain ⟨_, _, hat⟩ := World.cells?_some hc0
      obtain ⟨x0, rfl, _⟩ := hr _ _ _ ht0
      have := hat 0 hz0
      simp only [Nat.zero_mul] at this
      refine plain_addr (w := W) (v := (c x0)[0]'(by rw [hz]; exact hz0)) ?_
      have e : ∀ z : Addr, (z.add 0).add 0 = z.add 0 := fun z => by simp [Addr.add]
      rw [e] at this
      rw [this]; exact List.getElem?_eq_getElem _
    obtain ⟨l, hpl, hp⟩ := list_of (p := fun i (x : α) => (∀ j, j < z → W.cell? ⟨b, o + i * z + j, none⟩ = (c x)[j]?) ∧ good x) len fun i hil => by
      obtain ⟨cs, hc, ht⟩ := hi i (by omega)
      obtain ⟨x, rfl, hx⟩ := hr _ _ _ ht
      rw [hC] at hc
      obtain ⟨_, _, hat⟩ := World.cells?_some hc
      refine ⟨x, fun j hj => ?_, hx⟩
      have := hat j hj
      rwa [addr_at, addr_at] at this
    refine ⟨l, hpl, .inr ⟨b, o, rfl, fun i x hx j v hv => ?_⟩, fun x hx => ?_, fun e => (by cases e)⟩
    · have hj := (List.getElem?_eq_some_iff.1 hv).1
      rw [hz] at hj
      rw [(hp i x hx).1 j hj]; exact hv
    · obtain ⟨i, hi'⟩ := List.mem_iff_getElem?.1 hx
      exact (hp i x hi').2
def imG (x : Im) : Prop := Am x.tag ∧ Am x.grp ∧ Am x.met ∧ Am x.pri
def pcG (x : Pc) : Prop := Am x.it ∧ Am x.dy ∧ Am x.n
def lnG (x : Ln) : Prop := Am x.it ∧ Am x.un ∧ Am x.ch ∧ Am x.fi ∧ Am x.la
end
end Go.Proofs.Ytobdcogaphkogaa
