/- Arguments of the book's statements: what is read of them. -/
import Derived.Test.YtobdcogaphkogaaBoMem
import Derived.Test.YtobdcogaphkogaaWd
import Derived.ProofKit
import Derived.OpenShut
import Derived.ShutString
import Derived.ChangeOld
import Derived.ChangeSlices
import Derived.SizedLaws
import Derived.Deep.Slices
import Derived.Deep.Fields
namespace Go.Proofs.Ytobdcogaphkogaa
open Go.ChangeShapes Go.WideShapes Go.ChangeAt Go.RowKit Go.Deep

section
variable {H : Type} {enc : TypeId × Value → H} {W : World} {base : Nat} {spare : Nat → Bool} {held : Bool}
/-- a list of structs that came in -/
theorem rows_read {α : Type} {c : α → List Value} {good : α → Prop} {z : Nat} {T tS : TypeId} (hS : Try.prog.underlying tS = some (.slice T)) (hC : Try.prog.cellsOf T = z) (hz0 : 0 < z) (hz : ∀ x, (c x).length = z)
    (hr : ∀ (fuel : Nat) (cs : List Value) (y : DataW H × List MemPlace), DataW.trod enc Try.prog W base spare held fuel T cs = some y → ∃ x : α, cs = c x ∧ good x)
    {fuel : Nat} {a : Option Addr} {len cap : Nat} {y : DataW H × List MemPlace} (h : DataW.trod enc Try.prog W base spare held fuel tS [.slice a len cap] = some y) :
    ∃ l : List α, l.length = len ∧ Rws c z W a l ∧ (∀ x ∈ l, good x) ∧ (a = none → cap = 0) := by
  rcases open_slice hS h with ⟨hcs, _⟩ | ⟨x, l0, c0, m, n, D, Pl, hcs, _, hl, hm, hmm, _, hi⟩
  · simp at hcs
    obtain ⟨rfl, rfl, rfl⟩ := hcs
    exact ⟨[], rfl, .inl rfl, fun x hx => (by cases hx), fun _ => rfl⟩
  · simp at hcs
    obtain ⟨rfl, rfl, rfl⟩ := hcs
    have hlm : len ≤ m := by rw [hmm]; split <;> omega
    rcases Nat.eq_zero_or_pos len with q | q
    · subst q
      exact ⟨[], rfl, .inl rfl, fun x hx => (by cases hx), fun e => (by cases e)⟩
    obtain ⟨b, o, rfl⟩ : ∃ b o, x = ⟨b, o, none⟩ := by
      obtain ⟨cs0, hc0, ht0⟩ := hi 0 (by omega)
      rw [hC] at hc0
      obtain ⟨_, _, hat⟩ := World.cells?_some hc0
      obtain ⟨x0, rfl, _⟩ := hr _ _ _ ht0
      have := hat 0 hz0
      simp only [Nat.zero_mul] at this
      refine plain_addr (w := W) (v := (c x0)[0]'(by rw [hz]; exact hz0)) ?_
      have e : ∀ z : Addr, (z.add 0).add 0 = z.add 0 := fun z => by simp [Addr.add]
      rw [e] at this
      rw [this]; exact List.getElem?_eq_getElem _
    obtain ⟨l, hpl, hp⟩ := list_of (p := fun i (x : α) => (∀ j, j < z → W.cell? ⟨b, o + i * z + j, none⟩ = (c x)[j]?) ∧ good x) len fun i hil => by
      obtain ⟨cs, hc, ht⟩ := hi i (by omega)
      obtain ⟨x, rfl, hx⟩ := hr _ _ _ ht
      rw [hC] at hc
      obtain ⟨_, _, hat⟩ := World.cells?_some hc
      refine ⟨x, fun j hj => ?_, hx⟩
      have := hat j hj
      rwa [addr_at, addr_at] at this
    refine ⟨l, hpl, .inr ⟨b, o, rfl, fun i x hx j v hv => ?_⟩, fun x hx => ?_, fun e => (by cases e)⟩
    · have hj := (List.getElem?_eq_some_iff.1 hv).1
      rw [hz] at hj
      rw [(hp i x hx).1 j hj]; exact hv
    · obtain ⟨i, hi'⟩ := List.mem_iff_getElem?.1 hx
      exact (hp i x hi').2
def imG (x : Im) : Prop := Am x.tag ∧ Am x.grp ∧ Am x.met ∧ Am x.pri
def pcG (x : Pc) : Prop := Am x.it ∧ Am x.dy ∧ Am x.n
def lnG (x : Ln) : Prop := Am x.it ∧ Am x.un ∧ Am x.ch ∧ Am x.fi ∧ Am x.la
end
end Go.Proofs.Ytobdcogaphkogaa
