/- with; the ledger in memory. -/
import Derived.Test.YtginbgclifdfiaaAcJ
namespace Go.Proofs.Ytginbgclifdfiaa
open Go.RowKit

theorem am1_lit (w : World) (n : Int) (t : Nat) (ht : t = 2) : Am1 (w.alloc (.cells #[.int .i64 n] t)) w.heap.size (.slice (some ⟨w.heap.size, 0, none⟩) 1 1) [n] := by
  subst ht
  exact ⟨rfl, .inr ⟨w.heap.size, 1, #[.int .i64 n], rfl, Nat.le_refl _, Has.fresh w 2 _, Nat.le_refl _, by unfold maxLen; omega, rfl, rfl⟩⟩
set_option maxRecDepth 100000 in
set_option maxHeartbeats 2000000 in
theorem with_any (w : World) (n : Int) {B : Nat} {v : Value} {zs : List Int} (h : Am1 w B v zs) (hn : Am n) (hz : ∀ z ∈ zs, Am z) (hl : zs.length ≤ 100000) :
    Calls Try.prog 54 #[.int .i64 n, v] w fun e w' => e = .returned (.tuple #[.int .i64 (tellV (n + sumL zs)), .int .i64 (tellE (n + sumL zs))]) ∧ Below w.heap.size w w' := by
  have hu := h.up (boxed w (.cells #[.int .i64 n] 2))
  obtain ⟨a, c, rfl, hc, hq⟩ := hu.form
  obtain ⟨v', w5, happ, h1, g5, h3⟩ := app_rows 55 (ys := zs) (am1_lit w n _ rfl) (by simp) (by simp; omega) a c hc (by
    rcases hq with hq | ⟨g, e, hq⟩
    · exact .inl hq
    · exact .inr ⟨g, 0, e, fun i x hx => by rw [Nat.zero_add]; exact hq i x hx⟩)
  have hs := sum_am1 h1 (fun z hz' => by
    rcases List.mem_append.1 hz' with h | h
    · rw [List.mem_singleton.1 h]; exact hn
    · exact hz z h) (by simp; omega)
  rw [sumL_append] at hs
  simp only [sumL, Int.add_zero] at hs
  have hb5 : Below w.heap.size w w5 := (boxed w _).grown g5 (by simp) (fun j hj => by simp [Value.ownBlock] at hj; omega)
  have HA := Lib.hid happ
  have HS := Lib.hid hs
  have HB := Lib.hid hb5
  clear h hn hz hl hu hc hq h1 g5 h3 hs hb5 happ
  go_enter Try.func54, Try.ntmps54
  go_wp2_with (first | (refine wpList_run rfl (.tmp 7) (.tmp 8) 55 rfl _ _ rfl rfl (S := fun u q => u = v' ∧ q = w5) ⟨v', w5, HA.out, rfl, rfl⟩ ?_; rintro u q ⟨rfl, rfl⟩) | fail)
  refine HS.out.mono ?_
  rintro e w2 ⟨rfl, hb2⟩
  have HB2 := Lib.hid hb2
  clear hb2
  go_wp2_with fail
  go_ret2
  exact ⟨rfl, up2 HB.out HB2.out⟩
end Go.Proofs.Ytginbgclifdfiaa
