/- Proved: TrackDoes: of any obligation (of up to 20 lines) and any allotment, what a track answers to any operations (up to 70), what is earned through the operation's day and any other day, what is allotted, whether all is done, the day of the last change and the obligation are what the document's own track answers, operation by operation, for every input; every argument reads behind the call as it read before. -/
import Derived.Test.YtobdcogaphkogaaRows
import Derived.WalkKit
import Derived.ProofKit
import Derived.OpenShut
import Derived.ShutString
import Derived.ChangeOld
import Derived.SizedLaws
import Derived.Below
import Derived.Test.YtobdcogaphkogaaTqE
import Derived.Test.YtobdcogaphkogaaTrW
namespace Go.Proofs.Ytobdcogaphkogaa.trackDoes
open Go.ChangeShapes Go.WideShapes Go.ChangeAt Go.RowKit
set_option linter.unusedVariables false

theorem walk (w : World) (d0 : Dt) (a0 : Option Addr) (c0 : Nat) (hI0 : InA w a0 d0.ls) (hc0 : a0 = none → c0 = 0) (hG0 : DtG d0) (hl0 : d0.ls.length ≤ 17592186044416) (a1 : Int) (w1 : (Lit.int .i64 a1).wf = true) (a2 : Option Addr) (cap2 : Nat) (l2 : List Op3) (hR2 : O3A w a2 l2) (hg2 : ∀ x ∈ l2, o3G x) (hn2 : a2 = none → cap2 = 0) (a3 : Int) (w3 : (Lit.int .i64 a3).wf = true) :
    Calls Try.prog 3 #[d0.val a0 c0, .int .i64 a1, .slice a2 l2.length cap2, .int .i64 a3] w fun e w' => e = .returned (.bool true) ∧ Below w.heap.size w w' :=
  tdoes_law d0 a0 c0 a1 a2 cap2 l2 a3 w hI0 hc0 hG0.un (bounds_i64 w1) hR2 (fun x hx => (hg2 x hx).2.2)

set_option maxRecDepth 100000 in
theorem lifted (os : Os) (started : os.Started) (H : Type) (enc : TypeId × Value → H) :
    ReturnsInHanded {} Try.checked os 3 .any (Rows.trackDoesSpec.pre6 enc Try.prog Try.f3 Rows.trackDoesRow.domain false) (Rows.trackDoesSpec.post enc Try.prog Try.f3 false true false false) := by
  refine returnsInHanded_of_change_sized (C := Try.checked) own started (by kernel_rfl) Try.func3
    (ChangeSpec.witness6 (enc := enc) (C := Try.checked) false ⟨#[], #[.agg #[.slice none 0 0, .int .i64 0, .int .i64 0, .int .i64 0, .int .i64 0, .int .i64 0], .int .i64 0, .slice none 0 0, .int .i64 0], []⟩ 8 (by kernel_rfl) (by kernel_rfl) (by kernel_rfl) (by kernel_rfl)) ?_
  intro W base args ds gs before hval0 hW hcnd hweigh _
  have hval : ∀ (j : Nat) t v, Try.f3.params[j]? = some t → args[j]? = some v → Value.okWide Try.prog W .any base t v := hval0
  have hW' := hW
  obtain ⟨p, q, hA0, hV, rfl, hfz, hnd⟩ := hW
  have hA : DataW.TrodAll enc Try.prog W 0 (fun _ => true) true Try.f3.params.toList args.toList ds p := hA0
  have hsz : (DataW.weightsEach Try.prog (Try.f3.params.toList ++ Rows.trackDoesSpec.plain.varTypes Try.prog) (ds ++ gs)).all (· ≤ reachBytes) = true := hweigh
  rw [Try.params3] at hA hval hsz
  obtain ⟨v0, vs0, d0', ds0, p0, q0, hargs, rfl, rfl, h0, r0⟩ := trodAll_cons hA
  obtain ⟨v1, vs1, d1', ds1, p1, q1, rfl, rfl, rfl, h1, r1⟩ := trodAll_cons r0
  obtain ⟨v2, vs2, d2', ds2, p2, q2, rfl, rfl, rfl, h2, r2⟩ := trodAll_cons r1
  obtain ⟨v3, vs3, d3', ds3, p3, q3, rfl, rfl, rfl, h3, r3⟩ := trodAll_cons r2
  obtain ⟨rfl, rfl, rfl⟩ := trodAll_nil r3
  obtain rfl : args = #[v0, v1, v2, v3] := by cases args; simp_all
  obtain ⟨rfl, rfl⟩ := trodVars_none hV
  obtain ⟨cs0, rfl, sz0⟩ := okWide_struct Try.underlying24 (hval 0 24 v0 rfl rfl)
  have k0' := h0
  have lt0 : ∀ x ∈ p0, x.block < W.heap.size := by obtain ⟨m, hm⟩ := k0'; exact DataW.trod_lt m _ _ _ hm
  obtain ⟨d0, a0, c0, e0, hI0, hc0, hG0, hy0⟩ : ∃ (d : Dt) (a : Option Addr) (c : Nat), cs0 = #[.slice a d.ls.length c, .int .i64 d.al, .int .i64 d.un, .int .i64 d.me, .int .i64 d.fi, .int .i64 d.la] ∧ InA W a d.ls ∧ (a = none → c = 0) ∧ DtG d ∧ (d.ls = [] ∨ ∃ sp el : List (DataW H), ∃ r : List (DataW H), d0' = .agg (.slice el sp :: r) ∧ el.length = d.ls.length) := by
    obtain ⟨fuel, hf⟩ := h0
    obtain ⟨d, a, c, e, r⟩ := dt_read hf
    exact ⟨d, a, c, Array.toList_inj.1 e, r⟩
  subst e0
  have hl0 : d0.ls.length ≤ 17592186044416 := by
    rcases hy0 with e | ⟨sp, el, r, e, hl⟩
    · rw [e]; simp
    · rw [← hl]
      exact dt_sized hsz (j := 0) rfl (by rw [← e]; rfl)
  obtain ⟨a1, rfl, rfl, rfl, w1⟩ := open_int Try.underlying2 (hval 1 2 v1 rfl rfl) h1
  obtain ⟨a2, len2, cap2, rfl⟩ := okWide_slice Try.underlying25 (hval 2 25 v2 rfl rfl)
  have k2' := h2
  have lt2 : ∀ x ∈ p2, x.block < W.heap.size := by obtain ⟨m, hm⟩ := k2'; exact DataW.trod_lt m _ _ _ hm
  obtain ⟨l2, hl2, hR2, hg2, hn2⟩ : ∃ l : List Op3, l.length = len2 ∧ O3A W a2 l ∧ (∀ x ∈ l, o3G x) ∧ (a2 = none → cap2 = 0) := by
    obtain ⟨fuel, hf⟩ := h2
    exact o3s_read hf
  subst hl2
  obtain ⟨a3, rfl, rfl, rfl, w3⟩ := open_int Try.underlying3 (hval 3 3 v3 rfl rfl) h3
  clear hA0 hval0
  refine (walk W d0 a0 c0 hI0 hc0 hG0 hl0 a1 w1 a2 cap2 l2 hR2 hg2 hn2 a3 w3).mono fun e W' ⟨he, bel⟩ => ?_
  subst he
  exact ⟨_, rfl, _, _, _, [], _, [], hW', trodAll_mk1 (shut_bool Try.underlying4 _), (trodAll_cons_mk (Below.trod laidOut (by kernel_rfl) (of_decide_eq_true (by kernel_rfl)) k0' bel lt0) (trodAll_cons_mk (shut_int Try.underlying2 w1) (trodAll_cons_mk (Below.trod laidOut (by kernel_rfl) (of_decide_eq_true (by kernel_rfl)) k2' bel lt2) (trodAll_cons_mk (shut_int Try.underlying3 w3) trodAll_mk0)))), rfl, bel.frame _, fun h => by cases h⟩

theorem over : Rows.trackDoesRow.holds Try.pinned (OpenSpec.ofChange Rows.trackDoesSpec) :=
  OpenClaim.holds_of_wide 3 Try.f3 rfl rfl rfl rfl rfl rfl rfl ⟨rfl, rfl, rfl, rfl, rfl⟩ rfl rfl rfl rfl rfl (by kernel_rfl) Try.func3 (by kernel_rfl)
    (of_decide_eq_true (by kernel_rfl)) (by unfold Func.isWrapper; first | (rw [if_pos (by decide +kernel)]; kernel_rfl) | (rw [if_neg (by decide +kernel)]; exact ⟨rfl, rfl⟩))
    (fun os started H enc _ => lifted os started H enc)

theorem proved : Rows.TrackDoesSaid := over
#print axioms proved
end Go.Proofs.Ytobdcogaphkogaa.trackDoes
