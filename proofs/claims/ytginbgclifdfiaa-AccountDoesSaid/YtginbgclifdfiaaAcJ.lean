/- byPlaces: postings put together. -/
import Derived.Test.YtginbgclifdfiaaAcI
namespace Go.Proofs.Ytginbgclifdfiaa
open Go.RowKit

def ekP (q : Int × Int) : Value := plV q.1 q.2
theorem ekP_inj : ∀ a b : Int × Int, ekP a = ekP b → a = b := fun a b h => by
  unfold ekP plV at h
  injection h with h
  simp at h
  exact Prod.ext h.1 h.2
structure Pl (w0 w : World) (ps : List Po) (G : List ((Int × Int) × Value × List Int)) : Prop where
  gr : Gr ekP 73 w w0.heap.size G
  ok : GrOk plK ps G
  bel : Below w0.heap.size w0 w
theorem Pl.lt {w0 w : World} {ps : List Po} {G : List ((Int × Int) × Value × List Int)} (h : Pl w0 w ps G) : w0.heap.size < w.heap.size := h.gr.lt

set_option maxRecDepth 100000 in
set_option maxHeartbeats 4000000 in
theorem by_loop (w : World) (b o n cap : Nat) (ps : List Po) (hc : ∀ i x, ps[i]? = some x → w.cell? ⟨b, o + i * 3, none⟩ = some (.int .i64 x.a) ∧ w.cell? ⟨b, o + i * 3 + 1, none⟩ = some (.int .i64 x.c) ∧ w.cell? ⟨b, o + i * 3 + 2, none⟩ = some (.int .i64 x.m)) (hn : ps.length = n) (h2 : n ≤ 1000)
    (hm : ∀ x ∈ ps, Am x.a ∧ Am x.c) :
    Calls Try.prog 53 #[.slice (some ⟨b, o, none⟩) n cap] w fun e w' => e = .returned (.map (some w.heap.size)) ∧ ∃ G, Pl w w' ps G := by
  have HC := Lib.hid hc
  have HN := Lib.hid hn
  have HM := Lib.hid hm
  clear hc hn hm
  have hmm := @run_makeMap Try.prog
  go_enter Try.func53, Try.ntmps53
  go_wp2_with fail
  go_loopw [5, 6, 10] (fun _ _ i wr => ∃ k : Nat, k ≤ n ∧ i = .int .i64 (k : Int) ∧ ∃ G, Pl w wr (ps.take k) G) (fun _ _ i _ => n - (intOf i).toNat)
  case atStart => exact ⟨0, Nat.zero_le _, rfl, [], Gr.fresh _ _ w, by rw [List.take_zero]; exact GrOk.nil _, boxed _ _⟩
  case round =>
    obtain ⟨k, hk, rfl, G, hE⟩ := hrel
    have HE := Lib.hid hE
    clear hE
    by_cases hlt : k < n
    · obtain ⟨x, hx⟩ : ∃ x, ps[k]? = some x := ⟨ps[k]'(by rw [HN.out]; exact hlt), List.getElem?_eq_getElem _⟩
      have HX := Lib.hid hx
      obtain ⟨c0, c1, c2⟩ := HC.out k x hx
      have d0 := kcell HE.out.bel c0
      have d1 := kcell HE.out.bel c1
      have d2 := kcell HE.out.bel c2
      clear hx c0 c1 c2
      have hamk := HM.out x (List.mem_of_getElem? HX.out)
      have hlt0 := HE.out.lt
      -- the worlds on the way
      obtain ⟨W3, hW3⟩ : ∃ W3, W3 = ((wr.alloc (.cells #[.int .i64 x.a, .int .i64 x.c, .int .i64 x.m] 48)).alloc (.cells #[.int .i64 x.a, .int .i64 x.c] 73)).alloc (.cells #[.int .i64 x.m] 2) := ⟨_, rfl⟩
      have hb3 : Below wr.heap.size wr W3 := by rw [hW3]; exact ((boxed _ _).alloc (by simp) _).alloc (by simp; omega) _
      have hs3 : W3.heap.size = wr.heap.size + 3 := by rw [hW3]; simp
      have hy3 : Has W3 (wr.heap.size + 2) 2 #[.int .i64 x.m] := by
        rw [hW3]
        have := Has.fresh ((wr.alloc (.cells #[.int .i64 x.a, .int .i64 x.c, .int .i64 x.m] 48)).alloc (.cells #[.int .i64 x.a, .int .i64 x.c] 73)) 2 #[.int .i64 x.m]
        simpa using this
      obtain ⟨w0, v, zs, s, hent, g0, s0, hown, hzl, hback⟩ := gr_entry x lawPlace Try.underlying60 zeroI64s ekP_inj (HE.out.gr.up hb3) HE.out.ok (ky_place hamk.1 hamk.2)
      have hy : w0.cell? ⟨wr.heap.size + 2, 0, none⟩ = some (.int .i64 x.m) := g0.cell (hy3.cell 0) (by simp; omega)
      obtain ⟨v', w5, happ, h1, g5, h3⟩ := app_one 55 hown (by omega) (by rw [List.length_take] at hzl; omega) hy
      obtain ⟨w6, G', hst, q1, q2, q3, q4⟩ := hback w5 v' g5 h1 h3
      have hE6 : Pl w w6 (ps.take (k + 1)) G' := by
        refine ⟨q1, by rw [List.take_add_one, HX.out]; exact q2, ?_⟩
        refine (((HE.out.bel.trans (hb3.mono (Nat.le_of_lt hlt0))).grown g0 (by omega) (fun j hj => ?_)).grown g5 (by omega) (fun j hj => ?_)).grown q3 ?_ (fun j hj => ?_)
        · injection hj with hj; omega
        · have := (hown.lt hj).1; omega
        · have := g5.size; omega
        · injection hj with hj; omega
      have HE6 := Lib.hid hE6
      have HA := Lib.hid happ
      have HW3 := Lib.hid hW3
      have HEn := Lib.hid hent
      have HSt := Lib.hid hst
      unfold ekP plV plK at hent
      clear hE6 happ hW3 hb3 hs3 hy3 g0 s0 hown hzl hback hy h1 g5 h3 q1 q2 q3 q4 hamk hlt0
      rw [HW3.out] at hent
      go_wp2_with (first | (refine wpList_run rfl (.tmp 21) (.tmp 24) 55 rfl _ _ rfl rfl (S := fun u q => u = v' ∧ q = w5) ⟨v', w5, HA.out, rfl, rfl⟩ ?_; rintro u q ⟨rfl, rfl⟩) | fail)
      go_roundw
      case rel => exact ⟨k + 1, by omega, by go_num, G', HE6.out⟩
      case measure => simp [intOf]; omega
    · obtain rfl : k = n := by omega
      have hE := HE.out
      rw [List.take_of_length_le (by rw [HN.out]; exact Nat.le_refl _)] at hE
      have HE0 := Lib.hid hE
      clear hE HE
      go_wp2_with fail
      go_ret
      exact ⟨rfl, G, HE0.out⟩
theorem by_any (w : World) (a : Option Addr) (n cap : Nat) (ps : List Po) (h : PsA w a ps) (hn : ps.length = n) (h1 : 1 ≤ n) (h2 : n ≤ 1000) (hm : ∀ x ∈ ps, Am x.a ∧ Am x.c) :
    Calls Try.prog 53 #[.slice a n cap] w fun e w' => e = .returned (.map (some w.heap.size)) ∧ ∃ G, Pl w w' ps G := by
  rcases h with rfl | ⟨b, o, rfl, hc⟩
  · simp at hn; omega
  · exact by_loop w b o n cap ps hc hn h2 hm
end Go.Proofs.Ytginbgclifdfiaa
