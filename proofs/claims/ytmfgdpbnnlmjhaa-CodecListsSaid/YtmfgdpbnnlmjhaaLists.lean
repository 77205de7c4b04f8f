/- Proved: CodecLists: for every list of texts and bytes the call answers true and leaves its input as it was: texts as one, and the texts of any bytes, or that there are none, are as the document's reference says. No conditions. -/
import Derived.Test.YtmfgdpbnnlmjhaaRows
import Derived.Test.YtmfgdpbnnlmjhaaCxV
import Derived.Test.YtmfgdpbnnlmjhaaCxW
import Derived.WalkKit
import Derived.ProofKit
import Derived.OpenShut
import Derived.ShutString
import Derived.ChangeOld
import Derived.SizedLaws
import Derived.Below
namespace Go.Proofs.Ytmfgdpbnnlmjhaa.codecLists
open Go.ChangeShapes Go.WideShapes Go.ChangeAt Go.RowKit
set_option linter.unusedVariables false

theorem walk (w : World) (a0 : Option Addr) (xs0 : List ByteArray) (cap0 : Nat) (hX0 : StrA w a0 xs0) (hN0 : xs0.length ≤ 140737488355328) (hsz0 : ∀ x ∈ xs0, x.size ≤ 140737488355328) (x1 : ByteArray) (hs1 : x1.size ≤ maxLen) :
    Calls Try.prog 4 #[.slice a0 xs0.length cap0, .string x1] w fun e w' => e = .returned (.bool true) ∧ Below w.heap.size w w' :=
  lists_any a0 cap0 xs0 x1 w hX0 hN0 hsz0

set_option maxRecDepth 100000 in
theorem lifted (os : Os) (started : os.Started) (H : Type) (enc : TypeId × Value → H) :
    ReturnsInHanded {} Try.checked os 4 .any (Rows.codecListsSpec.pre6 enc Try.prog Try.f4 Rows.codecListsRow.domain false) (Rows.codecListsSpec.post enc Try.prog Try.f4 false true false false) := by
  refine returnsInHanded_of_change_sized (C := Try.checked) own started (by kernel_rfl) Try.func4
    (ChangeSpec.witness6 (enc := enc) (C := Try.checked) false ⟨#[], #[.slice none 0 0, .string ByteArray.empty], []⟩ 8 (by kernel_rfl) (by kernel_rfl) (by kernel_rfl) (by kernel_rfl)) ?_
  intro W base args ds gs before hval0 hW hcnd hweigh _
  have hval : ∀ (j : Nat) t v, Try.f4.params[j]? = some t → args[j]? = some v → Value.okWide Try.prog W .any base t v := hval0
  have hsz : (DataW.weightsEach Try.prog (Try.f4.params.toList ++ Rows.codecListsSpec.plain.varTypes Try.prog) (ds ++ gs)).all (· ≤ reachBytes) = true := hweigh
  have hW' := hW
  obtain ⟨p, q, hA0, hV, rfl, hfz, hnd⟩ := hW
  have hA : DataW.TrodAll enc Try.prog W 0 (fun _ => true) true Try.f4.params.toList args.toList ds p := hA0
  rw [Try.params4] at hA hval hsz
  obtain ⟨v0, vs0, d0, ds0, p0, q0, hargs, rfl, rfl, h0, r0⟩ := trodAll_cons hA
  obtain ⟨v1, vs1, d1, ds1, p1, q1, rfl, rfl, rfl, h1, r1⟩ := trodAll_cons r0
  obtain ⟨rfl, rfl, rfl⟩ := trodAll_nil r1
  obtain rfl : args = #[v0, v1] := by cases args; simp_all
  obtain ⟨rfl, rfl⟩ := trodVars_none hV
  obtain ⟨a0, len0, cap0, rfl⟩ := okWide_slice Try.underlying40 (hval 0 40 v0 rfl rfl)
  have k0' := h0
  have lt0 : ∀ x ∈ p0, x.block < W.heap.size := by obtain ⟨m, hm⟩ := k0'; exact DataW.trod_lt m _ _ _ hm
  obtain ⟨xs0, hl0, hcap0, hX0, hy0⟩ : ∃ xs : List ByteArray, xs.length = len0 ∧ len0 ≤ cap0 ∧ StrA W a0 xs ∧ ((xs = [] ∧ d0 = .nil) ∨ ∃ sp, d0 = .slice (strs xs) sp) := by
    obtain ⟨fuel, hf⟩ := h0
    exact strs_read hf
  subst hl0
  have hz0 : xs0.length ≤ 140737488355328 ∧ ∀ x ∈ xs0, x.size ≤ 140737488355328 := by
    rcases hy0 with ⟨rfl, _⟩ | ⟨sp, rfl⟩
    · exact ⟨by simp, fun x hx => by cases hx⟩
    · exact strs_sized hsz (j := 0) rfl rfl
  have hN0 := hz0.1
  have hsz0 := hz0.2
  obtain ⟨x1, rfl, rfl, rfl, hs1⟩ := Go.ChangeMaps.open_string Try.underlying9 (hval 1 9 v1 rfl rfl) h1
  clear hA0 hval0
  refine (walk W a0 xs0 cap0 hX0 hN0 hsz0 x1 hs1).mono fun e W' ⟨he, bel⟩ => ?_
  subst he
  exact ⟨_, rfl, _, _, _, [], _, [], hW', trodAll_mk1 (shut_bool Try.underlying4 _), (trodAll_cons_mk (Below.trod laidOut (by kernel_rfl) (of_decide_eq_true (by kernel_rfl)) k0' bel lt0) (trodAll_cons_mk (Go.ChangeMaps.shut_string Try.underlying9 hs1) trodAll_mk0)), rfl, bel.frame _, fun h => by cases h⟩

theorem over : Rows.codecListsRow.holds Try.pinned (OpenSpec.ofChange Rows.codecListsSpec) :=
  OpenClaim.holds_of_wide 4 Try.f4 rfl rfl rfl rfl rfl rfl rfl ⟨rfl, rfl, rfl, rfl, rfl⟩ rfl rfl rfl rfl rfl (by kernel_rfl) Try.func4 (by kernel_rfl)
    (of_decide_eq_true (by kernel_rfl)) (by unfold Func.isWrapper; first | (rw [if_pos (by decide +kernel)]; kernel_rfl) | (rw [if_neg (by decide +kernel)]; exact ⟨rfl, rfl⟩))
    (fun os started H enc _ => lifted os started H enc)

theorem proved : Rows.CodecListsSaid := over
#print axioms proved
end Go.Proofs.Ytmfgdpbnnlmjhaa.codecLists
