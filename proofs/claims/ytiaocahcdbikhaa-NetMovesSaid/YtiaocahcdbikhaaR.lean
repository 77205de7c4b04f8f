/- Contracts: Of. -/
import Derived.Test.YtiaocahcdbikhaaQ
namespace Go.Proofs.Ytiaocahcdbikhaa
open Go.RowKit

theorem Try.infoInt : (Try.prog.info? 3).map (fun i => (i.zero, i.size, i.bytes)) = some (some (.int .i64 0), 1, 8) := by kernel_rfl

/-- digits that a call of Go gathers in blocks of its own, from block B on -/
def Own (W : World) (B : Nat) (v : Value) (l : List Int) : Prop := W.ownsRow B 3 1 v l.length (l.map (Value.int .i64))

theorem own_dg {W : World} {B : Nat} {a : Option Addr} {len cap : Nat} {l : List Int} (h : Own W B (.slice a len cap) l) : len = l.length ∧ Dg W a cap l := by
  obtain ⟨h1, h2⟩ := h
  rcases h2 with ⟨h3, h4⟩ | ⟨g, cap', cur, h3, h4, h5, h6, h7, h8, h9⟩
  · simp at h3
    obtain ⟨rfl, rfl, rfl⟩ := h3
    have hl : l = [] := List.eq_nil_of_length_eq_zero h4
    exact ⟨by rw [hl]; rfl, .inl ⟨rfl, hl⟩⟩
  · simp at h3
    obtain ⟨rfl, rfl, rfl⟩ := h3
    refine ⟨rfl, .inr ⟨g, rfl, h6, ⟨cur, (0, 0), h5⟩, fun i hi => ?_⟩⟩
    have hc := World.ownsRow.cellAt (w := W) (base := B) (e := 3) (size := 1) (g := g) (n := l.length) (cap := cap) (xs := l.map (Value.int .i64)) ⟨h1, .inr ⟨g, cap, cur, rfl, h4, h5, h6, h7, h8, h9⟩⟩ i (by omega)
    rw [hc, List.getElem?_map, List.getElem?_eq_getElem hi]
    unfold dg; rw [getD_lt hi]; rfl
theorem own_form {W : World} {B : Nat} {v : Value} {l : List Int} (h : Own W B v l) : ∃ a cap, v = .slice a l.length cap := by
  rcases h.2 with ⟨h3, h4⟩ | ⟨g, cap', cur, h3, _⟩
  · exact ⟨none, 0, by rw [h3, h4]⟩
  · exact ⟨_, _, h3⟩

set_option maxRecDepth 100000 in
set_option maxHeartbeats 400000 in
theorem made_nil (s : Int) (cap : Nat) (w : World) : Calls Try.prog 33 #[.int .i64 s, .slice none 0 cap] w (ExPost w 0) := by
  go_enter Try.func33, Try.ntmps33
  go_wp2_with fail
  go_loop [1] (fun v => v = .slice none 0 cap) (fun _ => 0)
  case atStart => rfl
  case round =>
    subst hrel
    go_wp2_with fail
    exact bodyPost_ret (v := .agg #[.int .i64 0, .slice none 0 0]) (by simp [results, Try.results33, go_sem]) rfl
      ⟨0, none, 0, 0, rfl, ex_zero rfl 0, (Below.refl _ _).alloc (Nat.le_refl _) _⟩

theorem made_any (s : Int) (hs : s = 1 ∨ s = -1) {B : Nat} {a : Option Addr} {len cap : Nat} {l : List Int} {w : World} (h : Own w B (.slice a len cap) l) (hd : DigOk l) (hl : l.length ≤ 1000) (n : Int) (hn : n = s * lval l) :
    Calls Try.prog 33 #[.int .i64 s, .slice a len cap] w (ExPost w n) := by
  obtain ⟨rfl, hD⟩ := own_dg h
  subst hn
  rcases hD with ⟨rfl, rfl⟩ | ⟨g, rfl, h2, h3⟩
  · rw [show s * lval [] = 0 by simp [lval]]
    exact made_nil s cap w
  · exact made_some s hs g cap l w (.inr ⟨g, rfl, h2, h3⟩) hd hl

/-- a number of 64 bits has no more than seven digits of thousands -/
theorem few {k : Nat} {v p : Int} (hv : 0 ≤ v) (hp : 1 ≤ p) (h : v + p * 1000 ^ k ≤ 9223372036854775808) : k ≤ 6 := by
  by_cases hk : k ≤ 6
  · exact hk
  · obtain ⟨d, rfl⟩ : ∃ d, k = 7 + d := ⟨k - 7, by omega⟩
    have h1 := pow_pos' (7 + d)
    have h2 : 1 * 1000 ^ (7 + d) ≤ p * 1000 ^ (7 + d) := Int.mul_le_mul_of_nonneg_right hp (by omega)
    have h3 : (1000 : Int) ^ 7 * 1 ≤ 1000 ^ (7 + d) := by
      rw [Int.pow_add]; exact Int.mul_le_mul_of_nonneg_left (by have := pow_pos' d; omega) (by decide)
    have h4 : (1000 : Int) ^ 7 = 1000000000000000000000 := by decide
    omega
theorem of_step {l : List Int} {p n : Int} (h : lval l + p * 1000 ^ l.length = n) : lval (l ++ [p % 1000]) + p / 1000 * 1000 ^ (l ++ [p % 1000]).length = n := by
  have c := carry p (1000 ^ l.length)
  rw [lval_snoc, List.length_append, List.length_singleton, Int.pow_succ]
  omega

/-- what holds at the loop's head of Of -/
def OfAt (W0 : World) (B : Nat) (n : Int) (v : Value) (p : Int) (wr : World) : Prop :=
  ∃ l, Own wr B v l ∧ DigOk l ∧ 0 ≤ p ∧ lval l + p * 1000 ^ l.length = n ∧ Below B W0 wr ∧ l.length ≤ 7
theorem ofAt_step {W0 wr w1 : World} {B : Nat} {n p : Int} {v v' : Value} {l : List Int} {o : Obj} (hown : Own wr B v l) (hd : DigOk l) (hp : 0 ≤ p) (h : lval l + p * 1000 ^ l.length = n) (hb : Below B W0 wr) (hB : B ≤ wr.heap.size) (h6 : l.length ≤ 6)
    (h1 : w1.ownsRow B 3 1 v' (l.length + 1) (l.map (Value.int .i64) ++ [.int .i64 (p % 1000)])) (h2 : (wr.alloc o).grownBy w1 v.ownBlock) : OfAt W0 B n v' (p / 1000) w1 := by
  refine ⟨l ++ [p % 1000], ?_, digOk_snoc hd (by omega) (by omega), by omega, of_step h, ?_, by rw [List.length_append, List.length_singleton]; omega⟩
  · unfold Own; rw [List.length_append, List.length_singleton, List.map_append]; exact h1
  · exact (hb.alloc hB o).grown h2 (by simp; omega) (fun k hk => (hown.lt k hk).1)

/-- one new cell, appended -/
theorem one_news (W : World) (x : Value) (t : Nat) : ∀ (j : Nat) (u : Value), [x][j]? = some u → (W.alloc (.cells #[x] t)).cell? ((⟨W.heap.size, 0, none⟩ : Addr).add j) = some u := by
  intro j u hj
  match j, hj with
  | 0, hj => simp at hj; subst hj; simp [Addr.add]
theorem one_cell (n : Int) : ∀ u ∈ [Value.int .i64 n], u.oneCell' = true := by intro u hu; simp at hu; subst hu; rfl

/-- the world at the head of a loop that gathers digits -/
def Head (w W0 : World) : Prop := Below w.heap.size w W0 ∧ Res W0 w.heap.size ∧ w.heap.size + 1 ≤ W0.heap.size ∧ Own W0 (w.heap.size + 1) (.slice (some ⟨w.heap.size + 1, 0, none⟩) 0 0) []
theorem head_start (w : World) : Head w ((w.alloc (.cells #[.int .i64 0, .slice none 0 0] 50)).alloc (.cells #[] 3)) := by
  have hb : Below (w.heap.size + 1) (w.alloc (.cells #[.int .i64 0, .slice none 0 0] 50)) ((w.alloc (.cells #[.int .i64 0, .slice none 0 0] 50)).alloc (.cells #[] 3)) := (Below.refl _ _).alloc (by simp) _
  refine ⟨((Below.refl _ _).alloc (Nat.le_refl _) _).alloc (by simp) _, (Res.start w).up hb (by omega), by simp, ?_⟩
  have := World.ownsRow_lit (e := 3) (size := 1) (base := w.heap.size + 1) (w.alloc (.cells #[.int .i64 0, .slice none 0 0] 50)) #[] 0 (by simp) (by unfold maxLen; omega) rfl
  simp only [World.size_alloc] at this
  exact this

theorem ofAt_bound {W0 wr : World} {B : Nat} {n p : Int} {v : Value} {l : List Int} (_hown : Own wr B v l) (hd : DigOk l) (hp : 0 ≤ p) (h : lval l + p * 1000 ^ l.length = n) (_hb : Below B W0 wr) : p ≤ n ∧ (1 ≤ p → n ≤ 9223372036854775808 → l.length ≤ 6) := by
  have hd1 := (lval_bd hd).1
  constructor
  · have := pow_pos' l.length
    have h3 : p * 1 ≤ p * 1000 ^ l.length := Int.mul_le_mul_of_nonneg_left (by omega) hp
    omega
  · intro h1 h2
    exact few (v := lval l) hd1 (p := p) h1 (by omega)

theorem ofAt_len {W0 wr : World} {B : Nat} {n : Int} {v : Value} (h : OfAt W0 B n v 0 wr) : ∃ l, Own wr B v l ∧ DigOk l ∧ lval l = n ∧ l.length ≤ 1000 := by
  obtain ⟨l, h1, h2, _, h4, _, h6⟩ := h
  exact ⟨l, h1, h2, by omega, by omega⟩

set_option maxRecDepth 100000 in
set_option maxHeartbeats 800000 in
theorem of_nonneg (n : Int) (w : World) (h1 : 0 ≤ n) (h2 : n ≤ 9223372036854775807) : Calls Try.prog 21 #[.int .i64 n] w (ExPost w n) := by
  obtain ⟨i0, hi, hz0, hz1, hz2⟩ := info_parts Try.infoInt
  have HW := Lib.hid (head_start w)
  go_enter Try.func21, Try.ntmps21
  go_wp2_with fail
  obtain ⟨W0, hW0⟩ : ∃ W0, W0 = ((w.alloc (.cells #[.int .i64 0, .slice none 0 0] 50)).alloc (.cells #[] 3)) := ⟨_, rfl⟩
  rw [← hW0] at HW
  rw [← hW0]
  clear hW0
  go_loopw [3, 4, 5, 6] (fun s v m _ wr => s = .int .i64 1 ∧ ∃ p : Int, m = .int .i64 p ∧ OfAt W0 (w.heap.size + 1) n v p wr) (fun _ _ m _ _ => (intOf m).toNat)
  case atStart => exact ⟨rfl, n, rfl, [], HW.out.2.2.2, fun d hd => by simp at hd, h1, by simp [lval], Below.refl _ _, by simp⟩
  case round =>
    obtain ⟨rfl, p, rfl, hO⟩ := hrel
    have HO := Lib.hid hO
    obtain ⟨l, hown, hd, hp, hv, hb, _⟩ := hO
    obtain ⟨hpn, hfew⟩ := ofAt_bound hown hd hp hv hb
    have hB : w.heap.size + 1 ≤ wr.heap.size := Nat.le_trans HW.out.2.2.1 hb.size
    by_cases hz : p = 0
    · subst hz
      have hpb : ((0 : Int) != 0) = false := by decide
      have HR := Lib.hid (HW.out.2.1.up hb (by omega))
      have HB := Lib.hid (HW.out.1.trans (hb.mono (by omega)))
      obtain ⟨l', hown', hd', hv', hl'⟩ := ofAt_len HO.out
      obtain ⟨a, cap, rfl⟩ := own_form hown'
      have HC := Lib.hid (made_any 1 (.inl rfl) hown' hd' hl' n (by omega))
      clear hown hd hv hb hfew hown' hd' hv' hl' hpb hp hpn HO
      go_wp2_with fail
      refine HC.out.mono ?_
      rintro e w1 ⟨s', a', len', cap', rfl, hE, hb1⟩
      have HE := Lib.hid hE
      have HR1 := Lib.hid (HR.out.up hb1 (by omega))
      have HB1 := Lib.hid (HB.out.trans (hb1.mono (by omega)))
      clear hE hb1
      obtain ⟨d0, d1, g0, g1⟩ := HR1.out.1
      go_wp2_with fail
      exact bodyPost_ret (v := .agg #[.int .i64 s', .slice a' len' cap']) (by simp [results, Try.results21, go_sem, d0, d1]) rfl
        ⟨s', a', len', cap', rfl, ex_store HR1.out HE.out _ _, (HB1.out.setCell (Nat.le_refl _) _).setCell (Nat.le_refl _) _⟩
    · have hfew' := hfew (by omega) (by omega)
      have hpb : (p != 0) = true := by rw [bne_iff_ne]; exact hz
      have HS : Hid (∀ (v' : Value) (w1 : World), w1.ownsRow (w.heap.size + 1) 3 1 v' (l.length + 1) (l.map (Value.int .i64) ++ [.int .i64 (p % 1000)]) → (wr.alloc (.cells #[.int .i64 (p % 1000)] 3)).grownBy w1 u4.ownBlock → OfAt W0 (w.heap.size + 1) n v' (p / 1000) w1) :=
        fun v' w1 g1 g2 => ofAt_step hown hd hp hv hb hB hfew' g1 g2
      have hp1 : 1 ≤ p := by omega
      clear hv hd hb hz hfew HO
      go_wp2_with (first | (at_builtin; refine wpList_append_own _ rfl _ _ 48 rfl (w.heap.size + 1) 3 i0 (.int .i64 0) 1 8 Try.underlying48 hi hz0 hz1 hz2 rfl (by decide) _ _ _ rfl (World.ownsRow.alloc hown _) ⟨wr.heap.size, 0, none⟩ 1 1 [.int .i64 (p % 1000)] rfl rfl (one_news _ _ _) (one_cell _) ?c3 ?c4 ?c5 ?_))
      case c3 => unfold maxLen; omega
      case c4 => omega
      case c5 => simp; omega
      intro v' w1 hown' hgrow _
      have HN := Lib.hid (HS.out v' w1 hown' hgrow)
      clear hown' hgrow hown HS
      go_wp2_with fail
      go_roundw
      case rel => exact ⟨rfl, p / 1000, rfl, HN.out⟩
      case measure => simp [intOf]; omega
set_option maxRecDepth 100000 in
set_option maxHeartbeats 800000 in
theorem of_neg (n : Int) (w : World) (h1 : 1 ≤ n) (h2 : n ≤ 9223372036854775808) : Calls Try.prog 21 #[.int .i64 (-n)] w (ExPost w (-n)) := by
  obtain ⟨i0, hi, hz0, hz1, hz2⟩ := info_parts Try.infoInt
  have HW := Lib.hid (head_start w)
  go_enter Try.func21, Try.ntmps21
  go_wp2_with fail
  obtain ⟨W0, hW0⟩ : ∃ W0, W0 = ((w.alloc (.cells #[.int .i64 0, .slice none 0 0] 50)).alloc (.cells #[] 3)) := ⟨_, rfl⟩
  rw [← hW0] at HW
  rw [← hW0]
  clear hW0
  go_loopw [3, 4, 5, 6] (fun s v m _ wr => ∃ p sg : Int, s = .int .i64 sg ∧ (sg = 1 ∨ sg = -1) ∧ (p = n ∨ sg = -1) ∧ m = .int .i64 (-p) ∧ OfAt W0 (w.heap.size + 1) n v p wr) (fun _ _ m _ _ => (intOf m).natAbs)
  case atStart => exact ⟨n, 1, rfl, .inl rfl, .inl rfl, rfl, [], HW.out.2.2.2, fun d hd => by simp at hd, by omega, by simp [lval], Below.refl _ _, by simp⟩
  case round =>
    obtain ⟨p, sg, rfl, hsg, hps, rfl, hO⟩ := hrel
    have HO := Lib.hid hO
    obtain ⟨l, hown, hd, hp, hv, hb, _⟩ := hO
    obtain ⟨hpn, hfew⟩ := ofAt_bound hown hd hp hv hb
    have hB : w.heap.size + 1 ≤ wr.heap.size := Nat.le_trans HW.out.2.2.1 hb.size
    by_cases hz : p = 0
    · subst hz
      have hpb : ((0 : Int) != 0) = false := by decide
      obtain rfl : sg = -1 := by omega
      clear hsg hps
      rw [Int.neg_zero]
      have HR := Lib.hid (HW.out.2.1.up hb (by omega))
      have HB := Lib.hid (HW.out.1.trans (hb.mono (by omega)))
      obtain ⟨l', hown', hd', hv', hl'⟩ := ofAt_len HO.out
      obtain ⟨a, cap, rfl⟩ := own_form hown'
      have HC := Lib.hid (made_any (-1) (.inr rfl) hown' hd' hl' (-n) (by omega))
      clear hown hd hv hb hfew hown' hd' hv' hl' hpb hp hpn HO
      go_wp2_with fail
      refine HC.out.mono ?_
      rintro e w1 ⟨s', a', len', cap', rfl, hE, hb1⟩
      have HE := Lib.hid hE
      have HR1 := Lib.hid (HR.out.up hb1 (by omega))
      have HB1 := Lib.hid (HB.out.trans (hb1.mono (by omega)))
      clear hE hb1
      obtain ⟨d0, d1, g0, g1⟩ := HR1.out.1
      go_wp2_with fail
      exact bodyPost_ret (v := .agg #[.int .i64 s', .slice a' len' cap']) (by simp [results, Try.results21, go_sem, d0, d1]) rfl
        ⟨s', a', len', cap', rfl, ex_store HR1.out HE.out _ _, (HB1.out.setCell (Nat.le_refl _) _).setCell (Nat.le_refl _) _⟩
    · have hfew' := hfew (by omega) (by omega)
      have hpb : (-p != 0) = true := by rw [bne_iff_ne]; omega
      have HS : Hid (∀ (v' : Value) (w1 : World), w1.ownsRow (w.heap.size + 1) 3 1 v' (l.length + 1) (l.map (Value.int .i64) ++ [.int .i64 (p % 1000)]) → (wr.alloc (.cells #[.int .i64 (p % 1000)] 3)).grownBy w1 u4.ownBlock → OfAt W0 (w.heap.size + 1) n v' (p / 1000) w1) :=
        fun v' w1 g1 g2 => ofAt_step hown hd hp hv hb hB hfew' g1 g2
      have hp1 : 1 ≤ p := by omega
      have e1 : p.tmod 1000 = p % 1000 := Int.tmod_eq_emod_of_nonneg hp
      have e2 : p.tdiv 1000 = p / 1000 := Int.tdiv_eq_ediv_of_nonneg hp
      clear hv hd hb hz hfew HO hsg hps
      by_cases hr : p % 1000 = 0
      · rw [hr] at HS
        go_wp2_with (first | (at_builtin; refine wpList_append_own _ rfl _ _ 48 rfl (w.heap.size + 1) 3 i0 (.int .i64 0) 1 8 Try.underlying48 hi hz0 hz1 hz2 rfl (by decide) _ _ _ rfl (World.ownsRow.alloc hown _) ⟨wr.heap.size, 0, none⟩ 1 1 [.int .i64 (0)] rfl rfl (one_news _ _ _) (one_cell _) ?c3 ?c4 ?c5 ?_))
        case c3 => unfold maxLen; omega
        case c4 => omega
        case c5 => simp; omega
        intro v' w1 hown' hgrow _
        have HN := Lib.hid (HS.out v' w1 hown' hgrow)
        clear hown' hgrow hown HS
        go_wp2_with fail
        go_roundw
        case rel => exact ⟨p / 1000, -1, rfl, .inr rfl, .inr rfl, rfl, HN.out⟩
        case measure => simp [intOf]; omega
      · have hr1 : 1 ≤ p % 1000 := by omega
        clear hr
        go_wp2_with (first | (at_builtin; refine wpList_append_own _ rfl _ _ 48 rfl (w.heap.size + 1) 3 i0 (.int .i64 0) 1 8 Try.underlying48 hi hz0 hz1 hz2 rfl (by decide) _ _ _ rfl (World.ownsRow.alloc hown _) ⟨wr.heap.size, 0, none⟩ 1 1 [.int .i64 (p % 1000)] rfl rfl (one_news _ _ _) (one_cell _) ?c3 ?c4 ?c5 ?_))
        case c3 => unfold maxLen; omega
        case c4 => omega
        case c5 => simp; omega
        intro v' w1 hown' hgrow _
        have HN := Lib.hid (HS.out v' w1 hown' hgrow)
        clear hown' hgrow hown HS
        go_wp2_with fail
        go_roundw
        case rel => exact ⟨p / 1000, -1, rfl, .inr rfl, .inr rfl, rfl, HN.out⟩
        case measure => simp [intOf]; omega

theorem of_any (n : Int) (w : World) (h1 : -9223372036854775808 ≤ n) (h2 : n ≤ 9223372036854775807) : Calls Try.prog 21 #[.int .i64 n] w (ExPost w n) := by
  by_cases h : 0 ≤ n
  · exact of_nonneg n w h h2
  · have := of_neg (-n) w (by omega) (by omega)
    rw [Int.neg_neg] at this
    exact this
end Go.Proofs.Ytiaocahcdbikhaa
