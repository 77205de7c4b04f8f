/- Exact numbers in memory; contracts of at and made. -/
import Derived.Test.YtiaocahcdbikhaaI
import Derived.Test.YtiaocahcdbikhaaP
namespace Go.Proofs.Ytiaocahcdbikhaa
open Go.RowKit

/-- a slice that reads as these digits, in a block of integers -/
def Dg (W : World) (a : Option Addr) (cap : Nat) (l : List Int) : Prop :=
  (a = none ∧ l = []) ∨ ∃ g, a = some ⟨g, 0, none⟩ ∧ l.length ≤ cap ∧ (∃ cur fr, W.heap[g]? = some (.cells cur 3 fr)) ∧ ∀ i, i < l.length → W.cell? ⟨g, i, none⟩ = some (.int .i64 (dg l i))
theorem heap_lt {W : World} {g : Nat} {o : Obj} (h : W.heap[g]? = some o) : g < W.heap.size := by
  by_cases hg : g < W.heap.size
  · exact hg
  · rw [Array.getElem?_eq_none (by omega)] at h; simp at h
theorem Dg.below {W W' : World} {a : Option Addr} {cap : Nat} {l : List Int} (h : Dg W a cap l) (hb : Below W.heap.size W W') : Dg W' a cap l := by
  rcases h with h | ⟨g, h1, h2, ⟨cur, fr, h4⟩, h3⟩
  · exact .inl h
  · exact .inr ⟨g, h1, h2, ⟨cur, fr, by rw [hb.block g (heap_lt h4)]; exact h4⟩, fun i hi => kcell hb (h3 i hi)⟩
theorem Dg.take {W : World} {a : Option Addr} {cap : Nat} {l : List Int} (h : Dg W a cap l) (k : Nat) : Dg W a cap (l.take k) := by
  rcases h with ⟨h1, h2⟩ | ⟨g, h1, h2, h4, h3⟩
  · exact .inl ⟨h1, by rw [h2]; simp⟩
  · refine .inr ⟨g, h1, Nat.le_trans (List.length_take_le' _ _) h2, h4, fun i hi => ?_⟩
    rw [List.length_take] at hi
    rw [dg_take (by omega)]; exact h3 i (by omega)
theorem Dg.set {W : World} {a : Option Addr} {cap : Nat} {l : List Int} (h : Dg W a cap l) {N : Nat} (hN : ∃ C fr, W.heap[N]? = some (.cells C 50 fr)) (k : Nat) (u : Value) : Dg (W.setCell ⟨N, k, none⟩ u) a cap l := by
  rcases h with h | ⟨g, h1, h2, ⟨cur, fr, h4⟩, h3⟩
  · exact .inl h
  · obtain ⟨C, fr', hN⟩ := hN
    have hne : g ≠ N := by
      intro e; subst e; rw [h4] at hN; simp at hN
    refine .inr ⟨g, h1, h2, ⟨cur, fr, ?_⟩, fun i hi => cSet (by show N ≠ g; omega) (h3 i hi)⟩
    rw [Below.heap_setCell W ⟨N, k, none⟩ u g hne]; exact h4

/-- an exact number's parts -/
def Ex (W : World) (s : Int) (a : Option Addr) (len cap : Nat) (n : Int) : Prop :=
  s = n.sign ∧ ∃ l, l.length = len ∧ Dg W a cap l ∧ DigOk l ∧ Top l ∧ lval l = n.natAbs
theorem Ex.below {W W' : World} {s : Int} {a : Option Addr} {len cap : Nat} {n : Int} (h : Ex W s a len cap n) (hb : Below W.heap.size W W') : Ex W' s a len cap n := by
  obtain ⟨h1, l, h2, h3, h4⟩ := h
  exact ⟨h1, l, h2, h3.below hb, h4⟩
def ExPost (w : World) (n : Int) (e : Ending) (w' : World) : Prop :=
  ∃ s a len cap, e = .returned (.agg #[.int .i64 s, .slice a len cap]) ∧ Ex w' s a len cap n ∧ Below w.heap.size w w'

/-- a call's own result, empty -/
def Res (W : World) (N : Nat) : Prop := Row2 W N (.int .i64 0) (.slice none 0 0) ∧ ∃ C fr, W.heap[N]? = some (.cells C 50 fr)
theorem Res.start (w : World) : Res (w.alloc (.cells #[.int .i64 0, .slice none 0 0] 50)) w.heap.size :=
  ⟨Row2.new _ _ _ _, #[.int .i64 0, .slice none 0 0], (0, 0), heap_alloc_new w _⟩
theorem Res.up {W W' : World} {N B : Nat} (h : Res W N) (hb : Below B W W') (hB : N < B) : Res W' N := by
  obtain ⟨⟨h0, h1, h2, h3⟩, C, fr, h4⟩ := h
  exact ⟨⟨(hb.cell (p := ⟨N, 0, none⟩) hB).trans h0, (hb.cell (p := ⟨N, 1, none⟩) hB).trans h1, (hb.frozen (p := ⟨N, 0, none⟩) hB).trans h2, (hb.frozen (p := ⟨N, 1, none⟩) hB).trans h3⟩, C, fr, by rw [hb.block N hB]; exact h4⟩
theorem type_set {W : World} {N : Nat} (h : ∃ C fr, W.heap[N]? = some (.cells C 50 fr)) (k : Nat) (u : Value) : ∃ C fr, (W.setCell ⟨N, k, none⟩ u).heap[N]? = some (.cells C 50 fr) := by
  obtain ⟨C, fr, h⟩ := h
  exact ⟨C.setIfInBounds k u, fr, by show (W.heap.modify N _)[N]? = _; rw [Array.getElem?_modify, if_pos rfl, h]; rfl⟩
theorem ex_store {W : World} {N : Nat} {s : Int} {a : Option Addr} {len cap : Nat} {n : Int} (hR : Res W N) (h : Ex W s a len cap n) (u0 u1 : Value) :
    Ex ((W.setCell ⟨N, 0, none⟩ u0).setCell ⟨N, 1, none⟩ u1) s a len cap n := by
  obtain ⟨h1, l, h2, h3, h4⟩ := h
  exact ⟨h1, l, h2, (h3.set hR.2 0 u0).set (type_set hR.2 0 u0) 1 u1, h4⟩

set_option maxHeartbeats 400000 in
theorem at_some (g len cap : Nat) (i x : Int) (w : World) (h0 : 0 ≤ i) (h1 : i < len) (hc : w.cell? ⟨g, i.toNat, none⟩ = some (.int .i64 x)) :
    Calls Try.prog 32 #[.slice (some ⟨g, 0, none⟩) len cap, .int .i64 i] w fun e w' => e = .returned (.int .i64 x) ∧ w = w' := by
  have hc' : w.cell? ⟨g, 0 + i.toNat, none⟩ = some (.int .i64 x) := by rw [Nat.zero_add]; exact hc
  go_enter Try.func32, Try.ntmps32
  go_wp2
  go_ret
  exact ⟨rfl, rfl⟩
set_option maxHeartbeats 400000 in
theorem at_none (a : Option Addr) (len cap : Nat) (i : Int) (w : World) (h1 : len ≤ i) :
    Calls Try.prog 32 #[.slice a len cap, .int .i64 i] w fun e w' => e = .returned (.int .i64 0) ∧ w = w' := by
  go_enter Try.func32, Try.ntmps32
  go_wp2
  go_ret
  exact ⟨rfl, rfl⟩
theorem at_any {a : Option Addr} {cap : Nat} {l : List Int} {w : World} (h : Dg w a cap l) (i : Int) (h0 : 0 ≤ i) (len : Nat) (hl : l.length = len) :
    Calls Try.prog 32 #[.slice a len cap, .int .i64 i] w fun e w' => e = .returned (.int .i64 (dg l i.toNat)) ∧ w = w' := by
  subst hl
  by_cases hi : i < l.length
  · rcases h with ⟨h1, h2⟩ | ⟨g, rfl, h2, h3⟩
    · rw [h2] at hi; simp at hi; omega
    · exact at_some g l.length cap i _ w h0 hi (h3.2 i.toNat (by omega))
  · rw [dg_beyond (l := l) (i := i.toNat) (by omega)]
    exact at_none a l.length cap i w (by omega)

theorem ex_zero {W : World} {n : Int} (h : n = 0) (cap : Nat) : Ex W 0 none 0 cap n := by
  subst h
  exact ⟨rfl, [], rfl, .inl ⟨rfl, rfl⟩, fun d hd => by simp at hd, .inl rfl, rfl⟩
theorem sign_mul {s v : Int} (hs : s = 1 ∨ s = -1) (hv : 0 < v) : s = (s * v).sign ∧ v = ((s * v).natAbs : Int) := by
  rcases hs with rfl | rfl
  · rw [Int.one_mul, Int.sign_eq_one_of_pos hv]; exact ⟨rfl, by omega⟩
  · rw [show (-1 : Int) * v = -v by omega, Int.sign_eq_neg_one_of_neg (by omega)]; exact ⟨rfl, by omega⟩
theorem ex_made {W : World} {s : Int} {g cap j : Nat} {l : List Int} (hs : s = 1 ∨ s = -1) (h : Dg W (some ⟨g, 0, none⟩) cap l) (hd : DigOk l) (hj : j + 1 ≤ l.length) (hne : dg l j ≠ 0) (hv : lval (l.take (j + 1)) = lval l) :
    Ex W s (some ⟨g, 0, none⟩) (j + 1) cap (s * lval l) := by
  have hlen : (l.take (j + 1)).length = j + 1 := by rw [List.length_take]; omega
  have ht : Top (l.take (j + 1)) := .inr (by rw [hlen, Nat.add_sub_cancel, dg_take (by omega)]; exact hne)
  have hne2 : l.take (j + 1) ≠ [] := by intro e; rw [e] at hlen; simp at hlen
  have hp := lval_top (digOk_take hd (j + 1)) ht hne2
  have hq := pow_pos' ((l.take (j + 1)).length - 1)
  have hm := sign_mul (s := s) (v := lval l) hs (by omega)
  exact ⟨hm.1, l.take (j + 1), hlen, h.take _, digOk_take hd _, ht, by rw [hv]; exact hm.2⟩

set_option maxHeartbeats 400000 in
theorem made_some (s : Int) (hs : s = 1 ∨ s = -1) (g cap : Nat) (l : List Int) (w : World) (h : Dg w (some ⟨g, 0, none⟩) cap l) (hd : DigOk l) (hl : l.length ≤ 1000) :
    Calls Try.prog 33 #[.int .i64 s, .slice (some ⟨g, 0, none⟩) l.length cap] w (ExPost w (s * lval l)) := by
  have HD := Lib.hid h
  have HO := Lib.hid hd
  have HS := Lib.hid hs
  clear hs h hd
  go_enter Try.func33, Try.ntmps33
  go_wp2_with fail
  go_loop [1] (fun v => ∃ k : Nat, k ≤ l.length ∧ v = .slice (some ⟨g, 0, none⟩) k cap ∧ Hid (lval (l.take k) = lval l)) (fun v => match v with | .slice _ k _ => k | _ => 0)
  case atStart => exact ⟨l.length, Nat.le_refl _, rfl, Lib.hid (by rw [List.take_length])⟩
  case round =>
    obtain ⟨k, hk, rfl, HV⟩ := hrel
    by_cases hz : k = 0
    · subst hz
      go_wp2_with fail
      have hz0 : s * lval l = 0 := by rw [← HV.out]; simp [lval]
      exact bodyPost_ret (v := .agg #[.int .i64 0, .slice none 0 0]) (by simp [results, Try.results33, go_sem]) rfl
        ⟨0, none, 0, 0, rfl, ex_zero hz0 0, (Below.refl _ _).alloc (Nat.le_refl _) _⟩
    · obtain ⟨j, rfl⟩ : ∃ j, k = j + 1 := ⟨k - 1, by omega⟩
      clear hz
      obtain ⟨hcap, hcl⟩ : l.length ≤ cap ∧ w.cell? ⟨g, j, none⟩ = some (.int .i64 (dg l j)) := by
        rcases HD.out with ⟨h1, _⟩ | ⟨g', h1, h2, h3⟩
        · simp at h1
        · simp at h1; subst h1; exact ⟨h2, h3.2 j (by omega)⟩
      have hg : g < w.heap.size := World.block_lt_of_cell? (a := ⟨g, j, none⟩) _ hcl
      by_cases hx : dg l j = 0
      · have HX := Lib.hid (lval_take_zero hk hx)
        have hb : (dg l j == 0) = true := by rw [hx]; rfl
        clear hx
        go_wp2_with fail
        go_round
        case rel => exact ⟨j, by omega, rfl, Lib.hid (by rw [← HX.out]; exact HV.out)⟩
        case measure => simp
      · have HX := Lib.hid hx
        have hb : (dg l j == 0) = false := beq_eq_false_iff_ne.2 hx
        clear hx
        go_wp2_with fail
        have hB : Below w.heap.size w (w.alloc (.cells #[.int .i64 s, .slice (some ⟨g, 0, none⟩) (j + 1) cap] 50)) := (Below.refl _ _).alloc (Nat.le_refl _) _
        exact bodyPost_ret (v := .agg #[.int .i64 s, .slice (some ⟨g, 0, none⟩) (j + 1) cap]) (by simp [results, Try.results33, go_sem]) rfl
          ⟨s, _, j + 1, cap, rfl, (ex_made HS.out HD.out HO.out hk HX.out HV.out).below hB, hB⟩
end Go.Proofs.Ytiaocahcdbikhaa
