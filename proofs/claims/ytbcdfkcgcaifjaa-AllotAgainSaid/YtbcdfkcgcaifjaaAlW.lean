/- Arguments: what is read of them. -/
import Derived.ProofKit
import Derived.OpenShut
import Derived.ShutString
import Derived.ChangeOld
import Derived.ChangeSlices
import Derived.SizedLaws
import Derived.Deep.Slices
import Derived.Deep.Fields
import Derived.Test.YtbcdfkcgcaifjaaM
import Derived.Test.YtbcdfkcgcaifjaaAlA
namespace Go.Proofs.Ytbcdfkcgcaifjaa
open Go.ChangeShapes Go.WideShapes Go.ChangeAt Go.RowKit Go.Deep

theorem own : ownKnob Try.prog.godebug = none := by kernel_rfl
theorem laidOut : laidOutB Try.prog = true := by kernel_rfl
theorem cInt : Try.prog.cellsOf 3 = 1 := by kernel_rfl
theorem cI64 : Try.prog.cellsOf 2 = 1 := by kernel_rfl

theorem plain_addr {w : World} {a : Addr} {v : Value} (h : w.cell? (a.add 0) = some v) : ∃ b o, a = ⟨b, o, none⟩ := by
  obtain ⟨b, o, sp⟩ := a
  cases sp with
  | none => exact ⟨b, o, rfl⟩
  | some u =>
    exfalso
    simp only [Addr.add] at h
    unfold World.cell? at h
    split at h <;> simp at h
theorem addr_at (b off : Nat) (k : Nat) : (⟨b, off, none⟩ : Addr).add k = ⟨b, off + k, none⟩ := by
  unfold Addr.add
  split
  · subst k; rfl
  · rfl
/-- rows of things that came in, one behind another -/
theorem list_of {α : Type} {p : Nat → α → Prop} : ∀ n : Nat, (∀ i, i < n → ∃ x, p i x) → ∃ l : List α, l.length = n ∧ ∀ i x, l[i]? = some x → p i x
  | 0, _ => ⟨[], rfl, fun i x h => by simp at h⟩
  | n + 1, h => by
    obtain ⟨l, hl, hp⟩ := list_of n fun i hi => h i (by omega)
    obtain ⟨x, hx⟩ := h n (by omega)
    refine ⟨l ++ [x], by simp [hl], fun i y hy => ?_⟩
    rcases Nat.lt_or_ge i n with r | r
    · rw [List.getElem?_append_left (by omega)] at hy
      exact hp i y hy
    · rw [List.getElem?_append_right (by omega)] at hy
      have : i = n := by
        rcases Nat.eq_or_lt_of_le r with q | q
        · exact q.symm
        · rw [List.getElem?_eq_none (by simp; omega)] at hy; cases hy
      subst this
      rw [hl, Nat.sub_self] at hy
      simp at hy
      subst hy
      exact hx
end Go.Proofs.Ytbcdfkcgcaifjaa

namespace Go.Proofs.Ytbcdfkcgcaifjaa
open Go.ChangeShapes Go.WideShapes Go.ChangeAt Go.RowKit Go.Deep

def nmV (l : List Int) (k : Nat) : Int := l.getD k 0
def IA (w : World) (a : Option Addr) (l : List Int) : Prop := Arg w a l.length (nmV l)
theorem nm_am {l : List Int} (h : ∀ x ∈ l, Am x) : Amounts (nmV l) := fun k => by
  unfold nmV
  rw [List.getD_eq_getElem?_getD]
  cases q : l[k]? with
  | none => simp
  | some x => exact h x (List.mem_of_getElem? q)
section
variable {H : Type} {enc : TypeId × Value → H} {W : World} {base : Nat} {spare : Nat → Bool} {held : Bool}
/-- a list of numbers that came in -/
theorem nms_read {tS T : TypeId} (hS : Try.prog.underlying tS = some (.slice T)) (hT : Try.prog.underlying T = some (.int .i64)) (hC : Try.prog.cellsOf T = 1) {fuel : Nat} {a : Option Addr} {len cap : Nat} {y : DataW H × List MemPlace} (h : DataW.trod enc Try.prog W base spare held fuel tS [.slice a len cap] = some y) :
    ∃ l : List Int, l.length = len ∧ IA W a l ∧ (∀ x ∈ l, Am x) ∧ (a = none → cap = 0) := by
  rcases open_ints hS hT hC h with ⟨hcs, _⟩ | ⟨x, l0, c0, zs, hcs, _, hl, _, hz, _, hcell, hw⟩
  · simp at hcs
    obtain ⟨rfl, rfl, rfl⟩ := hcs
    exact ⟨[], rfl, fun q => by simp at q, fun x hx => (by cases hx), fun _ => rfl⟩
  · simp at hcs
    obtain ⟨rfl, rfl, rfl⟩ := hcs
    have hlm : len ≤ zs.length := by rw [hz]; split <;> omega
    have hll : (zs.take len).length = len := by rw [List.length_take]; omega
    refine ⟨zs.take len, hll, fun q => ?_, fun x hx => bounds_i64 (hw x (List.mem_of_mem_take hx)), fun e => (by cases e)⟩
    rw [hll] at q
    obtain ⟨b, o, rfl⟩ := plain_addr (hcell 0 (by omega))
    refine ⟨b, o, rfl, fun j hj => ?_⟩
    rw [hll] at hj
    have := hcell j (by omega)
    rw [addr_at] at this
    rw [this, List.getD_eq_getElem?_getD]
    unfold nmV
    rw [List.getD_eq_getElem?_getD, List.getElem?_take, if_pos hj]
theorem i64s_read {fuel : Nat} {a : Option Addr} {len cap : Nat} {y : DataW H × List MemPlace} (h : DataW.trod enc Try.prog W base spare held fuel 22 [.slice a len cap] = some y) :
    ∃ l : List Int, l.length = len ∧ IA W a l ∧ (∀ x ∈ l, Am x) ∧ (a = none → cap = 0) := nms_read Try.underlying22 Try.underlying2 cI64 h
theorem ins_read {fuel : Nat} {a : Option Addr} {len cap : Nat} {y : DataW H × List MemPlace} (h : DataW.trod enc Try.prog W base spare held fuel 23 [.slice a len cap] = some y) :
    ∃ l : List Int, l.length = len ∧ IA W a l ∧ (∀ x ∈ l, Am x) ∧ (a = none → cap = 0) := nms_read Try.underlying23 Try.underlying3 cInt h
end
end Go.Proofs.Ytbcdfkcgcaifjaa
