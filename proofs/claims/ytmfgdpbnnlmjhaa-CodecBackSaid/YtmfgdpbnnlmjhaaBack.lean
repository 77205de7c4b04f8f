/- Proved: CodecBack: for every number, command, list of texts and bytes the call answers true and leaves its input as it was: numbers, commands and texts are those of their bytes, and what bytes tell has these bytes. No conditions. -/
import Derived.Test.YtmfgdpbnnlmjhaaRows
import Derived.Test.YtmfgdpbnnlmjhaaCxL
import Derived.Test.YtmfgdpbnnlmjhaaCxW
import Derived.WalkKit
import Derived.ProofKit
import Derived.OpenShut
import Derived.ShutString
import Derived.ChangeOld
import Derived.SizedLaws
import Derived.Below
namespace Go.Proofs.Ytmfgdpbnnlmjhaa.codecBack
open Go.ChangeShapes Go.WideShapes Go.ChangeAt Go.RowKit
set_option linter.unusedVariables false

theorem walk (w : World) (a0 : Int) (w0 : (Lit.int .i64 a0).wf = true) (k1 : Int) (a1 : Option Addr) (xs1 : List Int) (cap1 : Nat) (hX1 : NumA w a1 xs1) (hm1 : ∀ x ∈ xs1, Am x) (a2 : Option Addr) (xs2 : List ByteArray) (cap2 : Nat) (hX2 : StrA w a2 xs2) (hN2 : xs2.length ≤ 140737488355328) (hsz2 : ∀ x ∈ xs2, x.size ≤ 140737488355328) (x3 : ByteArray) (hs3 : x3.size ≤ maxLen) :
    Calls Try.prog 5 #[.int .i64 a0, .agg #[.int .i64 k1, .slice a1 xs1.length cap1], .slice a2 xs2.length cap2, .string x3] w fun e w' => e = .returned (.bool true) ∧ Below w.heap.size w w' :=
  back_any a0 k1 a1 cap1 xs1 a2 cap2 xs2 x3 w (bounds_i64 w0) hX1 hm1 hX2 hN2 hsz2

set_option maxRecDepth 100000 in
theorem lifted (os : Os) (started : os.Started) (H : Type) (enc : TypeId × Value → H) :
    ReturnsInHanded {} Try.checked os 5 .any (Rows.codecBackSpec.pre6 enc Try.prog Try.f5 Rows.codecBackRow.domain false) (Rows.codecBackSpec.post enc Try.prog Try.f5 false true false false) := by
  refine returnsInHanded_of_change_sized (C := Try.checked) own started (by kernel_rfl) Try.func5
    (ChangeSpec.witness6 (enc := enc) (C := Try.checked) false ⟨#[], #[.int .i64 0, .agg #[.int .i64 0, .slice none 0 0], .slice none 0 0, .string ByteArray.empty], []⟩ 8 (by kernel_rfl) (by kernel_rfl) (by kernel_rfl) (by kernel_rfl)) ?_
  intro W base args ds gs before hval0 hW hcnd hweigh _
  have hval : ∀ (j : Nat) t v, Try.f5.params[j]? = some t → args[j]? = some v → Value.okWide Try.prog W .any base t v := hval0
  have hsz : (DataW.weightsEach Try.prog (Try.f5.params.toList ++ Rows.codecBackSpec.plain.varTypes Try.prog) (ds ++ gs)).all (· ≤ reachBytes) = true := hweigh
  have hW' := hW
  obtain ⟨p, q, hA0, hV, rfl, hfz, hnd⟩ := hW
  have hA : DataW.TrodAll enc Try.prog W 0 (fun _ => true) true Try.f5.params.toList args.toList ds p := hA0
  rw [Try.params5] at hA hval hsz
  obtain ⟨v0, vs0, d0, ds0, p0, q0, hargs, rfl, rfl, h0, r0⟩ := trodAll_cons hA
  obtain ⟨v1, vs1, d1, ds1, p1, q1, rfl, rfl, rfl, h1, r1⟩ := trodAll_cons r0
  obtain ⟨v2, vs2, d2, ds2, p2, q2, rfl, rfl, rfl, h2, r2⟩ := trodAll_cons r1
  obtain ⟨v3, vs3, d3, ds3, p3, q3, rfl, rfl, rfl, h3, r3⟩ := trodAll_cons r2
  obtain ⟨rfl, rfl, rfl⟩ := trodAll_nil r3
  obtain rfl : args = #[v0, v1, v2, v3] := by cases args; simp_all
  obtain ⟨rfl, rfl⟩ := trodVars_none hV
  obtain ⟨a0, rfl, rfl, rfl, w0⟩ := open_int Try.underlying2 (hval 0 2 v0 rfl rfl) h0
  obtain ⟨cs1, rfl, sz1⟩ := okWide_struct Try.underlying24 (hval 1 24 v1 rfl rfl)
  have k1' := h1
  have lt1 : ∀ x ∈ p1, x.block < W.heap.size := by obtain ⟨m, hm⟩ := k1'; exact DataW.trod_lt m _ _ _ hm
  obtain ⟨k1, a1, xs1, cap1, e1, hX1, hm1⟩ : ∃ (k : Int) (a : Option Addr) (xs : List Int) (cap : Nat), cs1 = #[.int .i64 k, .slice a xs.length cap] ∧ NumA W a xs ∧ ∀ x ∈ xs, Am x := by
    obtain ⟨fuel, hf⟩ := h1
    obtain ⟨k, a, xs, cap, e, r⟩ := cmd_read hf
    exact ⟨k, a, xs, cap, Array.toList_inj.1 e, r⟩
  subst e1
  obtain ⟨a2, len2, cap2, rfl⟩ := okWide_slice Try.underlying40 (hval 2 40 v2 rfl rfl)
  have k2' := h2
  have lt2 : ∀ x ∈ p2, x.block < W.heap.size := by obtain ⟨m, hm⟩ := k2'; exact DataW.trod_lt m _ _ _ hm
  obtain ⟨xs2, hl2, hcap2, hX2, hy2⟩ : ∃ xs : List ByteArray, xs.length = len2 ∧ len2 ≤ cap2 ∧ StrA W a2 xs ∧ ((xs = [] ∧ d2 = .nil) ∨ ∃ sp, d2 = .slice (strs xs) sp) := by
    obtain ⟨fuel, hf⟩ := h2
    exact strs_read hf
  subst hl2
  have hz2 : xs2.length ≤ 140737488355328 ∧ ∀ x ∈ xs2, x.size ≤ 140737488355328 := by
    rcases hy2 with ⟨rfl, _⟩ | ⟨sp, rfl⟩
    · exact ⟨by simp, fun x hx => by cases hx⟩
    · exact strs_sized hsz (j := 2) rfl rfl
  have hN2 := hz2.1
  have hsz2 := hz2.2
  obtain ⟨x3, rfl, rfl, rfl, hs3⟩ := Go.ChangeMaps.open_string Try.underlying9 (hval 3 9 v3 rfl rfl) h3
  clear hA0 hval0
  refine (walk W a0 w0 k1 a1 xs1 cap1 hX1 hm1 a2 xs2 cap2 hX2 hN2 hsz2 x3 hs3).mono fun e W' ⟨he, bel⟩ => ?_
  subst he
  exact ⟨_, rfl, _, _, _, [], _, [], hW', trodAll_mk1 (shut_bool Try.underlying4 _), (trodAll_cons_mk (shut_int Try.underlying2 w0) (trodAll_cons_mk (Below.trod laidOut (by kernel_rfl) (of_decide_eq_true (by kernel_rfl)) k1' bel lt1) (trodAll_cons_mk (Below.trod laidOut (by kernel_rfl) (of_decide_eq_true (by kernel_rfl)) k2' bel lt2) (trodAll_cons_mk (Go.ChangeMaps.shut_string Try.underlying9 hs3) trodAll_mk0)))), rfl, bel.frame _, fun h => by cases h⟩

theorem over : Rows.codecBackRow.holds Try.pinned (OpenSpec.ofChange Rows.codecBackSpec) :=
  OpenClaim.holds_of_wide 5 Try.f5 rfl rfl rfl rfl rfl rfl rfl ⟨rfl, rfl, rfl, rfl, rfl⟩ rfl rfl rfl rfl rfl (by kernel_rfl) Try.func5 (by kernel_rfl)
    (of_decide_eq_true (by kernel_rfl)) (by unfold Func.isWrapper; first | (rw [if_pos (by decide +kernel)]; kernel_rfl) | (rw [if_neg (by decide +kernel)]; exact ⟨rfl, rfl⟩))
    (fun os started H enc _ => lifted os started H enc)

theorem proved : Rows.CodecBackSaid := over
#print axioms proved
end Go.Proofs.Ytmfgdpbnnlmjhaa.codecBack
