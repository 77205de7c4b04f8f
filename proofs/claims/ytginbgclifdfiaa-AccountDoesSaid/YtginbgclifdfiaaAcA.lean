/- Keys that are places; postings in memory; known, has, hasEntry, Open, Many. -/
import Derived.Test.YtginbgclifdfiaaAcMap
import Derived.Test.YtginbgclifdfiaaAcMath
import Derived.Test.YtginbgclifdfiaaB
import Derived.SizedLaws
namespace Go.Proofs.Ytginbgclifdfiaa
open Go.RowKit
open Go.Maps (Keyed)

theorem underPlace : Try.prog.underlying 73 = Try.prog.underlying 72 := by kernel_rfl
theorem lawPlace : Keyed Try.prog 73 := Keyed.of_law (deep_law_laid (by kernel_rfl) (m := 2) (by omega) (of_decide_eq_true (by kernel_rfl)) (by kernel_rfl) (by kernel_rfl))
theorem lawInt : Keyed Try.prog 3 := Go.Maps.int_keyed Try.underlying3
/-- a place -/
def plV (a c : Int) : Value := .agg #[.int .i64 a, .int .i64 c]
theorem wf_am {a : Int} (h : Am a) : (Lit.int .i64 a).wf = true := WalkArith.wf_i64 (by unfold Am at h; omega)
theorem ky_int {a : Int} (h : Am a) : Ky Try.prog 3 (.int .i64 a) := ⟨_, Go.Maps.keyOf_int_mk Try.underlying3 (wf_am h)⟩
theorem lits_int {a : Int} (h : Am a) (n : Nat) : Try.prog.keyLits (n + 1) 3 [.int .i64 a] = some [.int .i64 a] := by
  have h1 := wf_am h
  unfold Program.keyLits
  rw [Try.underlying3]
  simp [h1]
theorem lits_place {a c : Int} (ha : Am a) (hc : Am c) (n : Nat) : ∃ l, Try.prog.keyLits (n + 1 + 1) 73 [.int .i64 a, .int .i64 c] = some l := by
  have e0 : Try.prog.cellsOf 73 = 2 := by kernel_rfl
  have e1 : Try.prog.cellsOf 3 = 1 := by kernel_rfl
  have k1 := lits_int ha n
  have k2 := lits_int hc n
  unfold Program.keyLits
  rw [Try.underlying73]
  simp [e0, e1, k1, k2]
theorem size_types : ∃ n, Try.prog.types.size + 1 = n + 1 + 1 := ⟨Try.prog.types.size - 1, by have : (1 : Nat) ≤ Try.prog.types.size := of_decide_eq_true (by kernel_rfl); omega⟩
theorem ky_place {a c : Int} (ha : Am a) (hc : Am c) : Ky Try.prog 73 (plV a c) := by
  obtain ⟨n, hs⟩ := size_types
  obtain ⟨l, hl⟩ := lits_place ha hc n
  have hk : Try.prog.keyType 73 = true := by kernel_rfl
  have e0 : Try.prog.cellsOf 73 = 2 := by kernel_rfl
  unfold Ky plV keyOf
  rw [Try.underlying73, hs]
  simp only [hk, Value.formed, Try.underlying73, e0, Value.cells, hl]
  exact ⟨_, rfl⟩

/-- cells of postings -/
def Po.cells (x : Po) : List Value := [.int .i64 x.a, .int .i64 x.c, .int .i64 x.m]
def flat (ps : List Po) : List Value := ps.flatMap Po.cells
/-- postings that lie from an address on -/
def PsA (w : World) (a : Option Addr) (ps : List Po) : Prop :=
  ps = [] ∨ ∃ b o, a = some ⟨b, o, none⟩ ∧ ∀ i x, ps[i]? = some x → w.cell? ⟨b, o + i * 3, none⟩ = some (.int .i64 x.a) ∧ w.cell? ⟨b, o + i * 3 + 1, none⟩ = some (.int .i64 x.c) ∧ w.cell? ⟨b, o + i * 3 + 2, none⟩ = some (.int .i64 x.m)
theorem PsA.up {w w' : World} {a : Option Addr} {ps : List Po} (h : PsA w a ps) (q : Below w.heap.size w w') : PsA w' a ps := by
  rcases h with h | ⟨b, o, e, h⟩
  · exact .inl h
  · exact .inr ⟨b, o, e, fun i x hx => ⟨kcell q (h i x hx).1, kcell q (h i x hx).2.1, kcell q (h i x hx).2.2⟩⟩
theorem PsA.drew {w : World} {a : Option Addr} {ps : List Po} (h : PsA w a ps) : PsA w.drew a ps := h
theorem PsA.drewN {w : World} {a : Option Addr} {ps : List Po} (h : PsA w a ps) (n : Nat) : PsA (w.drewN n) a ps := by
  rcases h with h | ⟨b, o, e, h⟩
  · exact .inl h
  · exact .inr ⟨b, o, e, fun i x hx => by simpa using h i x hx⟩

set_option maxRecDepth 100000 in
set_option maxHeartbeats 1000000 in
theorem known_any (a c : Int) (w : World) : Calls Try.prog 34 #[plV a c] w fun e w' => e = .returned (.bool (knB a c)) ∧ Below w.heap.size w w' := by
  unfold plV
  by_cases h1 : 0 ≤ a
  · by_cases h2 : a ≤ 3
    · by_cases h3 : 0 ≤ c
      · by_cases h4 : c < 40
        · rw [show knB a c = true by simp [knB, h1, h2, h3, h4]]
          go_enter Try.func34, Try.ntmps34
          go_wp2
          go_ret
          exact ⟨rfl, boxed _ _⟩
        · rw [show knB a c = false by simp [knB, h1, h2, h3, h4]]
          go_enter Try.func34, Try.ntmps34
          go_wp2
          go_ret
          exact ⟨rfl, boxed _ _⟩
      · rw [show knB a c = false by simp [knB, h1, h2, h3]]
        go_enter Try.func34, Try.ntmps34
        go_wp2
        go_ret
        exact ⟨rfl, boxed _ _⟩
    · rw [show knB a c = false by simp [knB, h1, h2]]
      go_enter Try.func34, Try.ntmps34
      go_wp2
      go_ret
      exact ⟨rfl, boxed _ _⟩
  · rw [show knB a c = false by simp [knB, h1]]
    go_enter Try.func34, Try.ntmps34
    go_wp2
    go_ret
    exact ⟨rfl, boxed _ _⟩
end Go.Proofs.Ytginbgclifdfiaa
