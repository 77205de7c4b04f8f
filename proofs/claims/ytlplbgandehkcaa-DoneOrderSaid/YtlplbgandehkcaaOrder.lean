/- Proved: what went through once goes through turned about, and through each day the same is done then, of every obligation, up to 220 events and any day -/
import Derived.Test.YtlplbgandehkcaaRows
import Derived.Test.YtlplbgandehkcaaDnI
import Derived.Test.YtlplbgandehkcaaDnW
import Derived.WalkKit
import Derived.ProofKit
import Derived.OpenShut
import Derived.ShutString
import Derived.ChangeOld
import Derived.SizedLaws
import Derived.Below
namespace Go.Proofs.Ytlplbgandehkcaa.doneOrder
open Go.ChangeShapes Go.WideShapes Go.ChangeAt Go.RowKit
set_option linter.unusedVariables false

theorem walk (w : World) (d0 : Dt) (a0 : Option Addr) (c0 : Nat) (hI0 : InA w a0 d0.ls) (hc0 : a0 = none → c0 = 0) (hG0 : DtG d0) (hl0 : d0.ls.length ≤ 17592186044416) (a1 : Option Addr) (cap1 : Nat) (l1 : List Tl) (hR1 : TlA w a1 l1) (hg1 : ∀ x ∈ l1, tlG x) (hn1 : a1 = none → cap1 = 0) (a2 : Int) (w2 : (Lit.int .i64 a2).wf = true) :
    Calls Try.prog 5 #[d0.val a0 c0, .slice a1 l1.length cap1, .int .i64 a2] w fun e w' => e = .returned (.bool true) ∧ Below w.heap.size w w' :=
  order_law14 d0 a0 c0 a1 cap1 l1 a2 w hI0 hc0 hR1 hg1

set_option maxRecDepth 100000 in
theorem lifted (os : Os) (started : os.Started) (H : Type) (enc : TypeId × Value → H) :
    ReturnsInHanded {} Try.checked os 5 .any (Rows.doneOrderSpec.pre6 enc Try.prog Try.f5 Rows.doneOrderRow.domain false) (Rows.doneOrderSpec.post enc Try.prog Try.f5 false true false false) := by
  refine returnsInHanded_of_change_sized (C := Try.checked) own started (by kernel_rfl) Try.func5
    (ChangeSpec.witness6 (enc := enc) (C := Try.checked) false ⟨#[], #[.agg #[.slice none 0 0, .int .i64 0, .int .i64 0, .int .i64 0, .int .i64 0, .int .i64 0], .slice none 0 0, .int .i64 0], []⟩ 8 (by kernel_rfl) (by kernel_rfl) (by kernel_rfl) (by kernel_rfl)) ?_
  intro W base args ds gs before hval0 hW hcnd hweigh _
  have hval : ∀ (j : Nat) t v, Try.f5.params[j]? = some t → args[j]? = some v → Value.okWide Try.prog W .any base t v := hval0
  have hW' := hW
  obtain ⟨p, q, hA0, hV, rfl, hfz, hnd⟩ := hW
  have hA : DataW.TrodAll enc Try.prog W 0 (fun _ => true) true Try.f5.params.toList args.toList ds p := hA0
  have hsz : (DataW.weightsEach Try.prog (Try.f5.params.toList ++ Rows.doneOrderSpec.plain.varTypes Try.prog) (ds ++ gs)).all (· ≤ reachBytes) = true := hweigh
  rw [Try.params5] at hA hval hsz
  obtain ⟨v0, vs0, d0', ds0, p0, q0, hargs, rfl, rfl, h0, r0⟩ := trodAll_cons hA
  obtain ⟨v1, vs1, d1', ds1, p1, q1, rfl, rfl, rfl, h1, r1⟩ := trodAll_cons r0
  obtain ⟨v2, vs2, d2', ds2, p2, q2, rfl, rfl, rfl, h2, r2⟩ := trodAll_cons r1
  obtain ⟨rfl, rfl, rfl⟩ := trodAll_nil r2
  obtain rfl : args = #[v0, v1, v2] := by cases args; simp_all
  obtain ⟨rfl, rfl⟩ := trodVars_none hV
  obtain ⟨cs0, rfl, sz0⟩ := okWide_struct Try.underlying24 (hval 0 24 v0 rfl rfl)
  have k0' := h0
  have lt0 : ∀ x ∈ p0, x.block < W.heap.size := by obtain ⟨m, hm⟩ := k0'; exact DataW.trod_lt m _ _ _ hm
  obtain ⟨d0, a0, c0, e0, hI0, hc0, hG0, hy0⟩ : ∃ (d : Dt) (a : Option Addr) (c : Nat), cs0 = #[.slice a d.ls.length c, .int .i64 d.al, .int .i64 d.un, .int .i64 d.me, .int .i64 d.fi, .int .i64 d.la] ∧ InA W a d.ls ∧ (a = none → c = 0) ∧ DtG d ∧ (d.ls = [] ∨ ∃ sp el : List (DataW H), ∃ r : List (DataW H), d0' = .agg (.slice el sp :: r) ∧ el.length = d.ls.length) := by
    obtain ⟨fuel, hf⟩ := h0
    obtain ⟨d, a, c, e, r⟩ := dt_read hf
    exact ⟨d, a, c, Array.toList_inj.1 e, r⟩
  subst e0
  have hl0 : d0.ls.length ≤ 17592186044416 := by
    rcases hy0 with e | ⟨sp, el, r, e, hl⟩
    · rw [e]; simp
    · rw [← hl]
      exact dt_sized hsz (j := 0) rfl (by rw [← e]; rfl)
  obtain ⟨a1, len1, cap1, rfl⟩ := okWide_slice Try.underlying25 (hval 1 25 v1 rfl rfl)
  have k1' := h1
  have lt1 : ∀ x ∈ p1, x.block < W.heap.size := by obtain ⟨m, hm⟩ := k1'; exact DataW.trod_lt m _ _ _ hm
  obtain ⟨l1, hl1, hR1, hg1, hn1⟩ : ∃ l : List Tl, l.length = len1 ∧ TlA W a1 l ∧ (∀ x ∈ l, tlG x) ∧ (a1 = none → cap1 = 0) := by
    obtain ⟨fuel, hf⟩ := h1
    exact tls_read hf
  subst hl1
  obtain ⟨a2, rfl, rfl, rfl, w2⟩ := open_int Try.underlying3 (hval 2 3 v2 rfl rfl) h2
  clear hA0 hval0
  refine (walk W d0 a0 c0 hI0 hc0 hG0 hl0 a1 cap1 l1 hR1 hg1 hn1 a2 w2).mono fun e W' ⟨he, bel⟩ => ?_
  subst he
  exact ⟨_, rfl, _, _, _, [], _, [], hW', trodAll_mk1 (shut_bool Try.underlying4 _), (trodAll_cons_mk (Below.trod laidOut (by kernel_rfl) (of_decide_eq_true (by kernel_rfl)) k0' bel lt0) (trodAll_cons_mk (Below.trod laidOut (by kernel_rfl) (of_decide_eq_true (by kernel_rfl)) k1' bel lt1) (trodAll_cons_mk (shut_int Try.underlying3 w2) trodAll_mk0))), rfl, bel.frame _, fun h => by cases h⟩

theorem over : Rows.doneOrderRow.holds Try.pinned (OpenSpec.ofChange Rows.doneOrderSpec) :=
  OpenClaim.holds_of_wide 5 Try.f5 rfl rfl rfl rfl rfl rfl rfl ⟨rfl, rfl, rfl, rfl, rfl⟩ rfl rfl rfl rfl rfl (by kernel_rfl) Try.func5 (by kernel_rfl)
    (of_decide_eq_true (by kernel_rfl)) (by unfold Func.isWrapper; first | (rw [if_pos (by decide +kernel)]; kernel_rfl) | (rw [if_neg (by decide +kernel)]; exact ⟨rfl, rfl⟩))
    (fun os started H enc _ => lifted os started H enc)

theorem proved : Rows.DoneOrderSaid := over
#print axioms proved
end Go.Proofs.Ytlplbgandehkcaa.doneOrder
