/- Proved: what goes by days is done through its last one, nothing of it is done ahead of its first one, and each day between is one more, of every obligation and day -/
import Derived.Test.YtlplbgandehkcaaRows
import Derived.Test.YtlplbgandehkcaaDnG
import Derived.Test.YtlplbgandehkcaaDnW
import Derived.WalkKit
import Derived.ProofKit
import Derived.OpenShut
import Derived.ShutString
import Derived.ChangeOld
import Derived.SizedLaws
import Derived.Below
namespace Go.Proofs.Ytlplbgandehkcaa.doneEnds
open Go.ChangeShapes Go.WideShapes Go.ChangeAt Go.RowKit
set_option linter.unusedVariables false

theorem walk (w : World) (d0 : Dt) (a0 : Option Addr) (c0 : Nat) (hI0 : InA w a0 d0.ls) (hc0 : a0 = none → c0 = 0) (hG0 : DtG d0) (hl0 : d0.ls.length ≤ 17592186044416) (a1 : Int) (w1 : (Lit.int .i64 a1).wf = true) :
    Calls Try.prog 6 #[d0.val a0 c0, .int .i64 a1] w fun e w' => e = .returned (.bool true) ∧ Below w.heap.size w w' :=
  ends_law d0 a0 c0 a1 w hI0 hc0 hl0

set_option maxRecDepth 100000 in
theorem lifted (os : Os) (started : os.Started) (H : Type) (enc : TypeId × Value → H) :
    ReturnsInHanded {} Try.checked os 6 .any (Rows.doneEndsSpec.pre6 enc Try.prog Try.f6 Rows.doneEndsRow.domain false) (Rows.doneEndsSpec.post enc Try.prog Try.f6 false true false false) := by
  refine returnsInHanded_of_change_sized (C := Try.checked) own started (by kernel_rfl) Try.func6
    (ChangeSpec.witness6 (enc := enc) (C := Try.checked) false ⟨#[], #[.agg #[.slice none 0 0, .int .i64 0, .int .i64 0, .int .i64 0, .int .i64 0, .int .i64 0], .int .i64 0], []⟩ 8 (by kernel_rfl) (by kernel_rfl) (by kernel_rfl) (by kernel_rfl)) ?_
  intro W base args ds gs before hval0 hW hcnd hweigh _
  have hval : ∀ (j : Nat) t v, Try.f6.params[j]? = some t → args[j]? = some v → Value.okWide Try.prog W .any base t v := hval0
  have hW' := hW
  obtain ⟨p, q, hA0, hV, rfl, hfz, hnd⟩ := hW
  have hA : DataW.TrodAll enc Try.prog W 0 (fun _ => true) true Try.f6.params.toList args.toList ds p := hA0
  have hsz : (DataW.weightsEach Try.prog (Try.f6.params.toList ++ Rows.doneEndsSpec.plain.varTypes Try.prog) (ds ++ gs)).all (· ≤ reachBytes) = true := hweigh
  rw [Try.params6] at hA hval hsz
  obtain ⟨v0, vs0, d0', ds0, p0, q0, hargs, rfl, rfl, h0, r0⟩ := trodAll_cons hA
  obtain ⟨v1, vs1, d1', ds1, p1, q1, rfl, rfl, rfl, h1, r1⟩ := trodAll_cons r0
  obtain ⟨rfl, rfl, rfl⟩ := trodAll_nil r1
  obtain rfl : args = #[v0, v1] := by cases args; simp_all
  obtain ⟨rfl, rfl⟩ := trodVars_none hV
  obtain ⟨cs0, rfl, sz0⟩ := okWide_struct Try.underlying24 (hval 0 24 v0 rfl rfl)
  have k0' := h0
  have lt0 : ∀ x ∈ p0, x.block < W.heap.size := by obtain ⟨m, hm⟩ := k0'; exact DataW.trod_lt m _ _ _ hm
  obtain ⟨d0, a0, c0, e0, hI0, hc0, hG0, hy0⟩ : ∃ (d : Dt) (a : Option Addr) (c : Nat), cs0 = #[.slice a d.ls.length c, .int .i64 d.al, .int .i64 d.un, .int .i64 d.me, .int .i64 d.fi, .int .i64 d.la] ∧ InA W a d.ls ∧ (a = none → c = 0) ∧ DtG d ∧ (d.ls = [] ∨ ∃ sp el : List (DataW H), ∃ r : List (DataW H), d0' = .agg (.slice el sp :: r) ∧ el.length = d.ls.length) := by
    obtain ⟨fuel, hf⟩ := h0
    obtain ⟨d, a, c, e, r⟩ := dt_read hf
    exact ⟨d, a, c, Array.toList_inj.1 e, r⟩
  subst e0
  have hl0 : d0.ls.length ≤ 17592186044416 := by
    rcases hy0 with e | ⟨sp, el, r, e, hl⟩
    · rw [e]; simp
    · rw [← hl]
      exact dt_sized hsz (j := 0) rfl (by rw [← e]; rfl)
  obtain ⟨a1, rfl, rfl, rfl, w1⟩ := open_int Try.underlying3 (hval 1 3 v1 rfl rfl) h1
  clear hA0 hval0
  refine (walk W d0 a0 c0 hI0 hc0 hG0 hl0 a1 w1).mono fun e W' ⟨he, bel⟩ => ?_
  subst he
  exact ⟨_, rfl, _, _, _, [], _, [], hW', trodAll_mk1 (shut_bool Try.underlying4 _), (trodAll_cons_mk (Below.trod laidOut (by kernel_rfl) (of_decide_eq_true (by kernel_rfl)) k0' bel lt0) (trodAll_cons_mk (shut_int Try.underlying3 w1) trodAll_mk0)), rfl, bel.frame _, fun h => by cases h⟩

theorem over : Rows.doneEndsRow.holds Try.pinned (OpenSpec.ofChange Rows.doneEndsSpec) :=
  OpenClaim.holds_of_wide 6 Try.f6 rfl rfl rfl rfl rfl rfl rfl ⟨rfl, rfl, rfl, rfl, rfl⟩ rfl rfl rfl rfl rfl (by kernel_rfl) Try.func6 (by kernel_rfl)
    (of_decide_eq_true (by kernel_rfl)) (by unfold Func.isWrapper; first | (rw [if_pos (by decide +kernel)]; kernel_rfl) | (rw [if_neg (by decide +kernel)]; exact ⟨rfl, rfl⟩))
    (fun os started H enc _ => lifted os started H enc)

theorem proved : Rows.DoneEndsSaid := over
#print axioms proved
end Go.Proofs.Ytlplbgandehkcaa.doneEnds
