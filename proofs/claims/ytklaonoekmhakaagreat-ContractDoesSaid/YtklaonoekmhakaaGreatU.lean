/- Contracts: Of. -/
import Derived.Test.YtklaonoekmhakaaGreatQ
namespace Go.Proofs.YtklaonoekmhakaaGreat
open Go.RowKit

theorem Tryz.infoInt : (Tryz.prog.info? 3).map (fun i => (i.zero, i.size, i.bytes)) = some (some (.int .i64 0), 1, 8) := by kernel_rfl

/-- digits that a call of Go gathers in blocks of its own, from block B on -/
def Own (W : World) (B : Nat) (v : Value) (l : List Int) : Prop := W.ownsRow B 3 1 v l.length (l.map (Value.int .i64))

theorem own_dg {W : World} {B : Nat} {a : Option Addr} {len cap : Nat} {l : List Int} (h : Own W B (.slice a len cap) l) : len = l.length ∧ Dg W a cap l := by
  obtain ⟨h1, h2⟩ := h
  rcases h2 with ⟨h3, h4⟩ | ⟨g, cap', cur, h3, h4, h5, h6, h7, h8, h9⟩
  · simp at h3
    obtain ⟨rfl, rfl, rfl⟩ := h3
    have hl : l = [] := List.eq_nil_of_length_eq_zero h4
    exact ⟨by rw [hl]; rfl, .inl ⟨rfl, hl⟩⟩
  · simp at h3
    obtain ⟨rfl, rfl, rfl⟩ := h3
    refine ⟨rfl, .inr ⟨g, rfl, h6, ⟨cur, (0, 0), h5⟩, fun i hi => ?_⟩⟩
    have hc := World.ownsRow.cellAt (w := W) (base := B) (e := 3) (size := 1) (g := g) (n := l.length) (cap := cap) (xs := l.map (Value.int .i64)) ⟨h1, .inr ⟨g, cap, cur, rfl, h4, h5, h6, h7, h8, h9⟩⟩ i (by omega)
    rw [hc, List.getElem?_map, List.getElem?_eq_getElem hi]
    unfold dg; rw [getD_lt hi]; rfl
theorem own_form {W : World} {B : Nat} {v : Value} {l : List Int} (h : Own W B v l) : ∃ a cap, v = .slice a l.length cap := by
  rcases h.2 with ⟨h3, h4⟩ | ⟨g, cap', cur, h3, _⟩
  · exact ⟨none, 0, by rw [h3, h4]⟩
  · exact ⟨_, _, h3⟩

set_option maxRecDepth 100000 in
set_option maxHeartbeats 400000 in
theorem made_nil (s : Int) (cap : Nat) (w : World) : Calls Tryz.prog 112 #[.int .i64 s, .slice none 0 cap] w (ExPost w 0) := by
  go_enter Tryz.func112, Tryz.ntmps112
  go_wp2_with fail
  go_loop [1] (fun v => v = .slice none 0 cap) (fun _ => 0)
  case atStart => rfl
  case round =>
    subst hrel
    go_wp2_with fail
    exact bodyPost_ret (v := .agg #[.int .i64 0, .slice none 0 0]) (by simp [results, Tryz.results112, go_sem]) rfl
      ⟨0, none, 0, 0, rfl, ex_zero rfl 0, (Below.refl _ _).alloc (Nat.le_refl _) _⟩

theorem made_any (s : Int) (hs : s = 1 ∨ s = -1) {B : Nat} {a : Option Addr} {len cap : Nat} {l : List Int} {w : World} (h : Own w B (.slice a len cap) l) (hd : DigOk l) (hl : l.length ≤ 1000) (n : Int) (hn : n = s * lval l) :
    Calls Tryz.prog 112 #[.int .i64 s, .slice a len cap] w (ExPost w n) := by
  obtain ⟨rfl, hD⟩ := own_dg h
  subst hn
  rcases hD with ⟨rfl, rfl⟩ | ⟨g, rfl, h2, h3⟩
  · rw [show s * lval [] = 0 by simp [lval]]
    exact made_nil s cap w
  · exact made_some s hs g cap l w (.inr ⟨g, rfl, h2, h3⟩) hd hl

/-- a number of 64 bits has no more than seven digits of thousands -/
theorem few {k : Nat} {v p : Int} (hv : 0 ≤ v) (hp : 1 ≤ p) (h : v + p * 1000 ^ k ≤ 9223372036854775808) : k ≤ 6 := by
  by_cases hk : k ≤ 6
  · exact hk
  · obtain ⟨d, rfl⟩ : ∃ d, k = 7 + d := ⟨k - 7, by omega⟩
    have h1 := pow_pos' (7 + d)
    have h2 : 1 * 1000 ^ (7 + d) ≤ p * 1000 ^ (7 + d) := Int.mul_le_mul_of_nonneg_right hp (by omega)
    have h3 : (1000 : Int) ^ 7 * 1 ≤ 1000 ^ (7 + d) := by
      rw [Int.pow_add]; exact Int.mul_le_mul_of_nonneg_left (by have := pow_pos' d; omega) (by decide)
    have h4 : (1000 : Int) ^ 7 = 1000000000000000000000 := by decide
    omega
theorem of_step {l : List Int} {p n : Int} (h : lval l + p * 1000 ^ l.length = n) : lval (l ++ [p % 1000]) + p / 1000 * 1000 ^ (l ++ [p % 1000]).length = n := by
  have c := carry p (1000 ^ l.length)
  rw [lval_snoc, List.length_append, List.length_singleton, Int.pow_succ]
  omega

/-- what holds at the loop's head of Of -/
def OfAt (W0 : World) (B : Nat) (n : Int) (v : Value) (p : Int) (wr : World) : Prop :=
  ∃ l, Own wr B v l ∧ DigOk l ∧ 0 ≤ p ∧ lval l + p * 1000 ^ l.length = n ∧ Below B W0 wr ∧ l.length ≤ 7
theorem ofAt_step {W0 wr w1 : World} {B : Nat} {n p : Int} {v v' : Value} {l : List Int} {o : Obj} (hown : Own wr B v l) (hd : DigOk l) (hp : 0 ≤ p) (h : lval l + p * 1000 ^ l.length = n) (hb : Below B W0 wr) (hB : B ≤ wr.heap.size) (h6 : l.length ≤ 6)
    (h1 : w1.ownsRow B 3 1 v' (l.length + 1) (l.map (Value.int .i64) ++ [.int .i64 (p % 1000)])) (h2 : (wr.alloc o).grownBy w1 v.ownBlock) : OfAt W0 B n v' (p / 1000) w1 := by
  refine ⟨l ++ [p % 1000], ?_, digOk_snoc hd (by omega) (by omega), by omega, of_step h, ?_, by rw [List.length_append, List.length_singleton]; omega⟩
  · unfold Own; rw [List.length_append, List.length_singleton, List.map_append]; exact h1
  · exact (hb.alloc hB o).grown h2 (by simp; omega) (fun k hk => (hown.lt k hk).1)

/-- one new cell, appended -/
theorem one_news (W : World) (x : Value) (t : Nat) : ∀ (j : Nat) (u : Value), [x][j]? = some u → (W.alloc (.cells #[x] t)).cell? ((⟨W.heap.size, 0, none⟩ : Addr).add j) = some u := by
  intro j u hj
  match j, hj with
  | 0, hj => simp at hj; subst hj; simp [Addr.add]
theorem one_cell (n : Int) : ∀ u ∈ [Value.int .i64 n], u.oneCell' = true := by intro u hu; simp at hu; subst hu; rfl

/-- the world at the head of a loop that gathers digits -/
def Head (w W0 : World) : Prop := Below w.heap.size w W0 ∧ Res W0 w.heap.size ∧ w.heap.size + 1 ≤ W0.heap.size ∧ Own W0 (w.heap.size + 1) (.slice (some ⟨w.heap.size + 1, 0, none⟩) 0 0) []
theorem head_start (w : World) : Head w ((w.alloc (.cells #[.int .i64 0, .slice none 0 0] 135)).alloc (.cells #[] 3)) := by
  have hb : Below (w.heap.size + 1) (w.alloc (.cells #[.int .i64 0, .slice none 0 0] 135)) ((w.alloc (.cells #[.int .i64 0, .slice none 0 0] 135)).alloc (.cells #[] 3)) := (Below.refl _ _).alloc (by simp) _
  refine ⟨((Below.refl _ _).alloc (Nat.le_refl _) _).alloc (by simp) _, (Res.start w).up hb (by omega), by simp, ?_⟩
  have := World.ownsRow_lit (e := 3) (size := 1) (base := w.heap.size + 1) (w.alloc (.cells #[.int .i64 0, .slice none 0 0] 135)) #[] 0 (by simp) (by unfold maxLen; omega) rfl
  simp only [World.size_alloc] at this
  exact this

theorem ofAt_bound {W0 wr : World} {B : Nat} {n p : Int} {v : Value} {l : List Int} (_hown : Own wr B v l) (hd : DigOk l) (hp : 0 ≤ p) (h : lval l + p * 1000 ^ l.length = n) (_hb : Below B W0 wr) : p ≤ n ∧ (1 ≤ p → n ≤ 9223372036854775808 → l.length ≤ 6) := by
  have hd1 := (lval_bd hd).1
  constructor
  · have := pow_pos' l.length
    have h3 : p * 1 ≤ p * 1000 ^ l.length := Int.mul_le_mul_of_nonneg_left (by omega) hp
    omega
  · intro h1 h2
    exact few (v := lval l) hd1 (p := p) h1 (by omega)

theorem ofAt_len {W0 wr : World} {B : Nat} {n : Int} {v : Value} (h : OfAt W0 B n v 0 wr) : ∃ l, Own wr B v l ∧ DigOk l ∧ lval l = n ∧ l.length ≤ 1000 := by
  obtain ⟨l, h1, h2, _, h4, _, h6⟩ := h
  exact ⟨l, h1, h2, by omega, by omega⟩

set_option maxRecDepth 100000 in
set_option maxHeartbeats 800000 in
theorem of_nonneg (n : Int) (w : World) (h1 : 0 ≤ n) (h2 : n ≤ 9223372036854775807) : Calls Tryz.prog 77 #[.int .i64 n] w (ExPost w n) := by
  obtain ⟨i0, hi, hz0, hz1, hz2⟩ := info_parts Tryz.infoInt
  have HW := Lib.hid (head_start w)
  go_enter Tryz.func77, Tryz.ntmps77
  go_wp2_with fail
  obtain ⟨W0, hW0⟩ : ∃ W0, W0 = ((w.alloc (.cells #[.int .i64 0, .slice none 0 0] 135)).alloc (.cells #[] 3)) := ⟨_, rfl⟩
  rw [← hW0] at HW
  rw [← hW0]
  clear hW0
  go_loopw [3, 4, 5, 6] (fun s v m _ wr => s = .int .i64 1 ∧ ∃ p : Int, m = .int .i64 p ∧ OfAt W0 (w.heap.size + 1) n v p wr) (fun _ _ m _ _ => (intOf m).toNat)
  case atStart => exact ⟨rfl, n, rfl, [], HW.out.2.2.2, fun d hd => by simp at hd, h1, by simp [lval], Below.refl _ _, by simp⟩
  case round =>
    obtain ⟨rfl, p, rfl, hO⟩ := hrel
    have HO := Lib.hid hO
    obtain ⟨l, hown, hd, hp, hv, hb, _⟩ := hO
    obtain ⟨hpn, hfew⟩ := ofAt_bound hown hd hp hv hb
    have hB : w.heap.size + 1 ≤ wr.heap.size := Nat.le_trans HW.out.2.2.1 hb.size
    by_cases hz : p = 0
    · subst hz
      have hpb : ((0 : Int) != 0) = false := by decide
      have HR := Lib.hid (HW.out.2.1.up hb (by omega))
      have HB := Lib.hid (HW.out.1.trans (hb.mono (by omega)))
      obtain ⟨l', hown', hd', hv', hl'⟩ := ofAt_len HO.out
      obtain ⟨a, cap, rfl⟩ := own_form hown'
      have HC := Lib.hid (made_any 1 (.inl rfl) hown' hd' hl' n (by omega))
      clear hown hd hv hb hfew hown' hd' hv' hl' hpb hp hpn HO
      go_wp2_with fail
      refine HC.out.mono ?_
      rintro e w1 ⟨s', a', len', cap', rfl, hE, hb1⟩
      have HE := Lib.hid hE
      have HR1 := Lib.hid (HR.out.up hb1 (by omega))
      have HB1 := Lib.hid (HB.out.trans (hb1.mono (by omega)))
      clear hE hb1
      obtain ⟨d0, d1, g0, g1⟩ := HR1.out.1
      go_wp2_with fail
      exact bodyPost_ret (v := .agg #[.int .i64 s', .slice a' len' cap']) (by simp [results, Tryz.results77, go_sem, d0, d1]) rfl
        ⟨s', a', len', cap', rfl, ex_store HR1.out HE.out _ _, (HB1.out.setCell (Nat.le_refl _) _).setCell (Nat.le_refl _) _⟩
    · have hfew' := hfew (by omega) (by omega)
      have hpb : (p != 0) = true := by rw [bne_iff_ne]; exact hz
      have HS : Hid (∀ (v' : Value) (w1 : World), w1.ownsRow (w.heap.size + 1) 3 1 v' (l.length + 1) (l.map (Value.int .i64) ++ [.int .i64 (p % 1000)]) → (wr.alloc (.cells #[.int .i64 (p % 1000)] 3)).grownBy w1 u4.ownBlock → OfAt W0 (w.heap.size + 1) n v' (p / 1000) w1) :=
        fun v' w1 g1 g2 => ofAt_step hown hd hp hv hb hB hfew' g1 g2
      have hp1 : 1 ≤ p := by omega
      clear hv hd hb hz hfew HO
      go_wp2_with (first | (at_builtin; refine wpList_append_own _ rfl _ _ 49 rfl (w.heap.size + 1) 3 i0 (.int .i64 0) 1 8 Tryz.underlying49 hi hz0 hz1 hz2 rfl (by decide) _ _ _ rfl (World.ownsRow.alloc hown _) ⟨wr.heap.size, 0, none⟩ 1 1 [.int .i64 (p % 1000)] rfl rfl (one_news _ _ _) (one_cell _) ?c3 ?c4 ?c5 ?_))
      case c3 => unfold maxLen; omega
      case c4 => omega
      case c5 => simp; omega
      intro v' w1 hown' hgrow _
      have HN := Lib.hid (HS.out v' w1 hown' hgrow)
      clear hown' hgrow hown HS
      go_wp2_with fail
      go_roundw
      case rel => exact ⟨rfl, p / 1000, rfl, HN.out⟩
      case measure => simp [intOf]; omega
set_option maxRecDepth 100000 in
set_option maxHeartbeats 800000 in
theorem of_neg (n : Int) (w : World) (h1 : 1 ≤ n) (h2 : n ≤ 9223372036854775808) : Calls Tryz.prog 77 #[.int .i64 (-n)] w (ExPost w (-n)) := by
  obtain ⟨i0, hi, hz0, hz1, hz2⟩ := info_parts Tryz.infoInt
  have HW := Lib.hid (head_start w)
  go_enter Tryz.func77, Tryz.ntmps77
  go_wp2_with fail
  obtain ⟨W0, hW0⟩ : ∃ W0, W0 = ((w.alloc (.cells #[.int .i64 0, .slice none 0 0] 135)).alloc (.cells #[] 3)) := ⟨_, rfl⟩
  rw [← hW0] at HW
  rw [← hW0]
  clear hW0
  go_loopw [3, 4, 5, 6] (fun s v m _ wr => ∃ p sg : Int, s = .int .i64 sg ∧ (sg = 1 ∨ sg = -1) ∧ (p = n ∨ sg = -1) ∧ m = .int .i64 (-p) ∧ OfAt W0 (w.heap.size + 1) n v p wr) (fun _ _ m _ _ => (intOf m).natAbs)
  case atStart => exact ⟨n, 1, rfl, .inl rfl, .inl rfl, rfl, [], HW.out.2.2.2, fun d hd => by simp at hd, by omega, by simp [lval], Below.refl _ _, by simp⟩
  case round =>
    obtain ⟨p, sg, rfl, hsg, hps, rfl, hO⟩ := hrel
    have HO := Lib.hid hO
    obtain ⟨l, hown, hd, hp, hv, hb, _⟩ := hO
    obtain ⟨hpn, hfew⟩ := ofAt_bound hown hd hp hv hb
    have hB : w.heap.size + 1 ≤ wr.heap.size := Nat.le_trans HW.out.2.2.1 hb.size
    by_cases hz : p = 0
    · subst hz
      have hpb : ((0 : Int) != 0) = false := by decide
      obtain rfl : sg = -1 := by omega
      clear hsg hps
      rw [Int.neg_zero]
      have HR := Lib.hid (HW.out.2.1.up hb (by omega))
      have HB := Lib.hid (HW.out.1.trans (hb.mono (by omega)))
      obtain ⟨l', hown', hd', hv', hl'⟩ := ofAt_len HO.out
      obtain ⟨a, cap, rfl⟩ := own_form hown'
      have HC := Lib.hid (made_any (-1) (.inr rfl) hown' hd' hl' (-n) (by omega))
      clear hown hd hv hb hfew hown' hd' hv' hl' hpb hp hpn HO
      go_wp2_with fail
      refine HC.out.mono ?_
      rintro e w1 ⟨s', a', len', cap', rfl, hE, hb1⟩
      have HE := Lib.hid hE
      have HR1 := Lib.hid (HR.out.up hb1 (by omega))
      have HB1 := Lib.hid (HB.out.trans (hb1.mono (by omega)))
      clear hE hb1
      obtain ⟨d0, d1, g0, g1⟩ := HR1.out.1
      go_wp2_with fail
      exact bodyPost_ret (v := .agg #[.int .i64 s', .slice a' len' cap']) (by simp [results, Tryz.results77, go_sem, d0, d1]) rfl
        ⟨s', a', len', cap', rfl, ex_store HR1.out HE.out _ _, (HB1.out.setCell (Nat.le_refl _) _).setCell (Nat.le_refl _) _⟩
    · have hfew' := hfew (by omega) (by omega)
      have hpb : (-p != 0) = true := by rw [bne_iff_ne]; omega
      have HS : Hid (∀ (v' : Value) (w1 : World), w1.ownsRow (w.heap.size + 1) 3 1 v' (l.length + 1) (l.map (Value.int .i64) ++ [.int .i64 (p % 1000)]) → (wr.alloc (.cells #[.int .i64 (p % 1000)] 3)).grownBy w1 u4.ownBlock → OfAt W0 (w.heap.size + 1) n v' (p / 1000) w1) :=
        fun v' w1 g1 g2 => ofAt_step hown hd hp hv hb hB hfew' g1 g2
      have hp1 : 1 ≤ p := by omega
      have e1 : p.tmod 1000 = p % 1000 := Int.tmod_eq_emod_of_nonneg hp
      have e2 : p.tdiv 1000 = p / 1000 := Int.tdiv_eq_ediv_of_nonneg hp
      clear hv hd hb hz hfew HO hsg hps
      by_cases hr : p % 1000 = 0
      · rw [hr] at HS
        go_wp2_with (first | (at_builtin; refine wpList_append_own _ rfl _ _ 49 rfl (w.heap.size + 1) 3 i0 (.int .i64 0) 1 8 Tryz.underlying49 hi hz0 hz1 hz2 rfl (by decide) _ _ _ rfl (World.ownsRow.alloc hown _) ⟨wr.heap.size, 0, none⟩ 1 1 [.int .i64 (0)] rfl rfl (one_news _ _ _) (one_cell _) ?c3 ?c4 ?c5 ?_))
        case c3 => unfold maxLen; omega
        case c4 => omega
        case c5 => simp; omega
        intro v' w1 hown' hgrow _
        have HN := Lib.hid (HS.out v' w1 hown' hgrow)
        clear hown' hgrow hown HS
        go_wp2_with fail
        go_roundw
        case rel => exact ⟨p / 1000, -1, rfl, .inr rfl, .inr rfl, rfl, HN.out⟩
        case measure => simp [intOf]; omega
      · have hr1 : 1 ≤ p % 1000 := by omega
        clear hr
        go_wp2_with (first | (at_builtin; refine wpList_append_own _ rfl _ _ 49 rfl (w.heap.size + 1) 3 i0 (.int .i64 0) 1 8 Tryz.underlying49 hi hz0 hz1 hz2 rfl (by decide) _ _ _ rfl (World.ownsRow.alloc hown _) ⟨wr.heap.size, 0, none⟩ 1 1 [.int .i64 (p % 1000)] rfl rfl (one_news _ _ _) (one_cell _) ?c3 ?c4 ?c5 ?_))
        case c3 => unfold maxLen; omega
        case c4 => omega
        case c5 => simp; omega
        intro v' w1 hown' hgrow _
        have HN := Lib.hid (HS.out v' w1 hown' hgrow)
        clear hown' hgrow hown HS
        go_wp2_with fail
        go_roundw
        case rel => exact ⟨p / 1000, -1, rfl, .inr rfl, .inr rfl, rfl, HN.out⟩
        case measure => simp [intOf]; omega

theorem of_any (n : Int) (w : World) (h1 : -9223372036854775808 ≤ n) (h2 : n ≤ 9223372036854775807) : Calls Tryz.prog 77 #[.int .i64 n] w (ExPost w n) := by
  by_cases h : 0 ≤ n
  · exact of_nonneg n w h h2
  · have := of_neg (-n) w (by omega) (by omega)
    rw [Int.neg_neg] at this
    exact this
end Go.Proofs.YtklaonoekmhakaaGreat

namespace Go.Proofs.YtklaonoekmhakaaGreat
open Go.RowKit

theorem at_k {a : Option Addr} {cap : Nat} {l : List Int} {w : World} (h : Dg w a cap l) (j len : Nat) (hl : l.length = len) :
    Calls Tryz.prog 111 #[.slice a len cap, .int .i64 (j : Int)] w fun e w' => e = .returned (.int .i64 (dg l j)) ∧ w = w' := by
  have := at_any h (j : Int) (by omega) len hl
  rw [Int.toNat_natCast] at this
  exact this

set_option maxRecDepth 100000 in
set_option maxHeartbeats 800000 in
theorem least_any (a b : Option Addr) (lena lenb capa capb : Nat) (la lb : List Int) (w : World) (ha : Dg w a capa la) (hb : Dg w b capb lb) (oa : DigOk la) (ob : DigOk lb) (ea : la.length = lena) (eb : lb.length = lenb) (h1 : lena ≤ 1000) (h2 : lenb ≤ 1000) :
    Calls Tryz.prog 113 #[.slice a lena capa, .slice b lenb capb] w fun e w' => e = .returned (.bool (decide (lval la < lval lb))) ∧ w = w' := by
  have HA := Lib.hid ha; have HB := Lib.hid hb; have OA := Lib.hid oa; have OB := Lib.hid ob; have EA := Lib.hid ea; have EB := Lib.hid eb
  clear ha hb oa ob ea eb
  go_enter Tryz.func113, Tryz.ntmps113
  go_wp2_with fail
  all_goals
    go_loop [5] (fun i => ∃ k : Int, -1 ≤ k ∧ k ≤ 1000 ∧ i = .int .i64 k ∧ Hid (∀ j : Nat, k < j → dg la j = dg lb j)) (fun i => (intOf i + 1).toNat)
    case atStart => exact ⟨_, by omega, by omega, rfl, Lib.hid (fun j hj => by have := EA.out; have := EB.out; rw [dg_beyond (by omega), dg_beyond (by omega)])⟩
    case round =>
      obtain ⟨k, hk, hk2, rfl, HK⟩ := hrel
      by_cases hz : 0 ≤ k
      · obtain ⟨j, rfl⟩ := Int.eq_ofNat_of_zero_le hz
        by_cases hne : dg la j = dg lb j
        · have hq : (dg la j != dg lb j) = false := by rw [hne]; simp
          have HK2 : Hid (∀ i : Nat, (j : Int) - 1 < i → dg la i = dg lb i) := fun i hi => by
            by_cases e : i = j
            · rw [e]; exact hne
            · exact HK.out i (by omega)
          clear hne
          go_wp2_with fail
          refine (at_k HA.out j lena EA.out).mono ?_
          rintro _ _ ⟨rfl, rfl⟩
          go_wp2_with fail
          refine (at_k HB.out j lenb EB.out).mono ?_
          rintro _ _ ⟨rfl, rfl⟩
          go_wp2_with fail
          go_round
          case rel => exact ⟨(j : Int) - 1, by omega, by omega, rfl, HK2⟩
          case measure => simp [intOf]
        · have hq : (dg la j != dg lb j) = true := by rw [bne_iff_ne]; exact hne
          have HR : Hid (decide (dg la j < dg lb j) = decide (lval la < lval lb)) := by
            show _ = _
            by_cases hlt : dg la j < dg lb j
            · rw [decide_eq_true hlt, decide_eq_true (least_lt OA.out OB.out (fun i hi => HK.out i (by omega)) hlt)]
            · have h3 := least_lt OB.out OA.out (i := j) (fun i hi => (HK.out i (by omega)).symm) (by omega)
              rw [decide_eq_false hlt, decide_eq_false (by omega)]
          clear hne
          go_wp2_with fail
          refine (at_k HA.out j lena EA.out).mono ?_
          rintro _ _ ⟨rfl, rfl⟩
          go_wp2_with fail
          refine (at_k HB.out j lenb EB.out).mono ?_
          rintro _ _ ⟨rfl, rfl⟩
          go_wp2_with fail
          refine (at_k HA.out j lena EA.out).mono ?_
          rintro _ _ ⟨rfl, rfl⟩
          go_wp2_with fail
          refine (at_k HB.out j lenb EB.out).mono ?_
          rintro _ _ ⟨rfl, rfl⟩
          go_wp2_with fail
          go_ret
          exact ⟨by rw [← HR.out]; rfl, rfl⟩
      · have HE := Lib.hid (least_eq (a := la) (b := lb) (fun j => HK.out j (by omega)))
        go_wp2_with fail
        go_ret
        exact ⟨by rw [HE.out, decide_eq_false (by omega)]; rfl, rfl⟩

set_option maxRecDepth 100000 in
set_option maxHeartbeats 400000 in
theorem neg_any (s n : Int) (a : Option Addr) (len cap : Nat) (w : World) (h : Ex w s a len cap n) : Calls Tryz.prog 116 #[.agg #[.int .i64 s, .slice a len cap]] w (ExPost w (-n)) := by
  have HE := Lib.hid h
  have hs : -1 ≤ s ∧ s ≤ 1 := by
    rw [h.1]
    rcases Int.lt_trichotomy n 0 with g | g | g
    · rw [Int.sign_eq_neg_one_of_neg g]; omega
    · rw [g]; decide
    · rw [Int.sign_eq_one_of_pos g]; omega
  obtain ⟨hs1, hs2⟩ := hs
  clear h
  go_enter Tryz.func116, Tryz.ntmps116
  go_wp2
  have hB : Below w.heap.size w ((w.alloc (.cells #[.int .i64 s, .slice a len cap] 135)).alloc (.cells #[.int .i64 (-s), .slice a len cap] 135)) := ((Below.refl _ _).alloc (Nat.le_refl _) _).alloc (by simp) _
  have hE : Ex w (-s) a len cap (-n) := by
    obtain ⟨h1, l, h2, h3, h4, h5, h6⟩ := HE.out
    exact ⟨by rw [h1, Int.sign_neg], l, h2, h3, h4, h5, by rw [Int.natAbs_neg]; exact h6⟩
  exact bodyPost_ret (v := .agg #[.int .i64 (-s), .slice a len cap]) (by simp [results, Tryz.results116, go_sem]) rfl ⟨-s, a, len, cap, rfl, hE.below hB, hB⟩
end Go.Proofs.YtklaonoekmhakaaGreat

namespace Go.Proofs.YtklaonoekmhakaaGreat
open Go.RowKit

theorem Dg.drewN {W : World} {a : Option Addr} {cap : Nat} {l : List Int} (h : Dg W a cap l) (n : Nat) : Dg (W.drewN n) a cap l := by
  rcases h with h | ⟨g, h1, h2, h4, h3⟩
  · exact .inl h
  · exact .inr ⟨g, h1, h2, h4, fun i hi => h3 i hi⟩

/-- Plus's own blocks: both arguments, and its result -/
def PHead (w W : World) (sa va sb vb : Value) : Prop :=
  Below w.heap.size w W ∧ w.heap.size + 3 ≤ W.heap.size ∧ W.cell? ⟨w.heap.size, 0, none⟩ = some sa ∧ W.cell? ⟨w.heap.size, 1, none⟩ = some va ∧
  W.cell? ⟨w.heap.size + 1, 0, none⟩ = some sb ∧ W.cell? ⟨w.heap.size + 1, 1, none⟩ = some vb ∧ Res W (w.heap.size + 2)
theorem PHead.up {w W W' : World} {sa va sb vb : Value} {B : Nat} (h : PHead w W sa va sb vb) (hb : Below B W W') (hB : w.heap.size + 3 ≤ B) : PHead w W' sa va sb vb := by
  obtain ⟨h1, h2, h3, h4, h5, h6, h7⟩ := h
  exact ⟨h1.trans (hb.mono (by omega)), Nat.le_trans h2 hb.size, (hb.cell (p := ⟨w.heap.size, 0, none⟩) (by show w.heap.size < B; omega)).trans h3, (hb.cell (p := ⟨w.heap.size, 1, none⟩) (by show w.heap.size < B; omega)).trans h4,
    (hb.cell (p := ⟨w.heap.size + 1, 0, none⟩) (by show w.heap.size + 1 < B; omega)).trans h5, (hb.cell (p := ⟨w.heap.size + 1, 1, none⟩) (by show w.heap.size + 1 < B; omega)).trans h6, h7.up hb (by omega)⟩
theorem phead_start (w : World) (sa va sb vb : Value) :
    PHead w (((w.alloc (.cells #[sa, va] 135)).alloc (.cells #[sb, vb] 135)).alloc (.cells #[.int .i64 0, .slice none 0 0] 135)) sa va sb vb := by
  have h1 := Row2.new w sa va 135
  have h2 := Row2.new (w.alloc (.cells #[sa, va] 135)) sb vb 135
  have h3 := Res.start ((w.alloc (.cells #[sa, va] 135)).alloc (.cells #[sb, vb] 135))
  have b1 : Below (w.alloc (.cells #[sa, va] 135)).heap.size (w.alloc (.cells #[sa, va] 135)) ((w.alloc (.cells #[sa, va] 135)).alloc (.cells #[sb, vb] 135)) := (Below.refl _ _).alloc (Nat.le_refl _) _
  have b2 : Below ((w.alloc (.cells #[sa, va] 135)).alloc (.cells #[sb, vb] 135)).heap.size ((w.alloc (.cells #[sa, va] 135)).alloc (.cells #[sb, vb] 135)) (((w.alloc (.cells #[sa, va] 135)).alloc (.cells #[sb, vb] 135)).alloc (.cells #[.int .i64 0, .slice none 0 0] 135)) := (Below.refl _ _).alloc (Nat.le_refl _) _
  have g1 := (h1.below b1).below b2
  have g2 := h2.below b2
  simp only [World.size_alloc] at g2 h3
  exact ⟨(((Below.refl _ _).alloc (Nat.le_refl _) _).alloc (by simp) _).alloc (by simp; omega) _, by simp, g1.1, g1.2.1, g2.1, g2.2.1, h3⟩

/-- the digits gathered so far, in blocks from w.heap.size + 3 on -/
def Gath (w W : World) (sa va sb vb v : Value) (l : List Int) : Prop := PHead w W sa va sb vb ∧ Own W (w.heap.size + 3) v l ∧ DigOk l
theorem gath_start {w W : World} {sa va sb vb : Value} (h : PHead w W sa va sb vb) : Gath w (W.alloc (.cells #[] 3)) sa va sb vb (.slice (some ⟨W.heap.size, 0, none⟩) 0 0) [] := by
  refine ⟨h.up ((Below.refl _ _).alloc (Nat.le_refl _) _) h.2.1, ?_, fun d hd => by simp at hd⟩
  exact World.ownsRow_lit (e := 3) (size := 1) (base := w.heap.size + 3) W #[] 0 h.2.1 (by unfold maxLen; omega) rfl
theorem Own.drewN {W : World} {B : Nat} {v : Value} {l : List Int} (h : Own W B v l) (n : Nat) : Own (W.drewN n) B v l := h
theorem gath_step {w W w1 : World} {sa va sb vb v v' : Value} {l : List Int} {x : Int} {o : Obj} (h : Gath w W sa va sb vb v l) (h0 : 0 ≤ x) (h9 : x ≤ 999)
    (h1 : w1.ownsRow (w.heap.size + 3) 3 1 v' (l.length + 1) (l.map (Value.int .i64) ++ [.int .i64 x])) (h2 : (W.alloc o).grownBy w1 v.ownBlock) : Gath w w1 sa va sb vb v' (l ++ [x]) := by
  obtain ⟨hP, hO, hD⟩ := h
  have hb : Below (w.heap.size + 3) W w1 := ((Below.refl _ _).alloc hP.2.1 o).grown h2 (by simp; have := hP.2.1; omega) (fun k hk => (hO.lt k hk).1)
  refine ⟨hP.up hb (Nat.le_refl _), ?_, digOk_snoc hD h0 h9⟩
  unfold Own; rw [List.length_append, List.length_singleton, List.map_append]; exact h1
theorem PHead.drewN {w W : World} {sa va sb vb : Value} (h : PHead w W sa va sb vb) (n : Nat) : PHead w (W.drewN n) sa va sb vb :=
  h.up (below_drewN (Below.refl _ _) n) (Nat.le_refl (w.heap.size + 3))
theorem Gath.drewN {w W : World} {sa va sb vb v : Value} {l : List Int} (h : Gath w W sa va sb vb v l) (n : Nat) : Gath w (W.drewN n) sa va sb vb v l := ⟨h.1.drewN n, h.2.1.drewN n, h.2.2⟩

def PlusAt (w : World) (sa va sb vb : Value) (la lb : List Int) (v : Value) (over : Int) (i : Nat) (W : World) : Prop :=
  ∃ l, Gath w W sa va sb vb v l ∧ l.length = i ∧ 0 ≤ over ∧ over ≤ 1 ∧ lval l + over * 1000 ^ i = vTo la i + vTo lb i

set_option maxRecDepth 100000 in
set_option maxHeartbeats 800000 in
theorem plus_same (s n : Int) (a b : Option Addr) (lena lenb capa capb : Nat) (la lb : List Int) (w : World) (hs : s = 1 ∨ s = -1) (ha : Dg w a capa la) (hb : Dg w b capb lb) (oa : DigOk la) (ob : DigOk lb) (ea : la.length = lena) (eb : lb.length = lenb) (h1 : lena ≤ 900) (h2 : lenb ≤ 900)
    (hn : n = s * (lval la + lval lb)) (M : Nat) (hM : (lena < lenb ∧ M = lenb) ∨ (lenb ≤ lena ∧ M = lena)) :
    Calls Tryz.prog 76 #[.agg #[.int .i64 s, .slice a lena capa], .agg #[.int .i64 s, .slice b lenb capb]] w (ExPost w n) := by
  obtain ⟨i0, hi, hz0, hz1, hz2⟩ := info_parts Tryz.infoInt
  have HA := Lib.hid ha; have HB := Lib.hid hb; have OA := Lib.hid oa; have OB := Lib.hid ob; have EA := Lib.hid ea; have EB := Lib.hid eb; have HN := Lib.hid hn; have HS := Lib.hid hs; have HM := Lib.hid hM
  have hsz : (s == 0) = false := by rw [beq_eq_false_iff_ne]; omega
  clear ha hb oa ob ea eb hn hs hM
  have HP := Lib.hid (phead_start w (.int .i64 s) (.slice a lena capa) (.int .i64 s) (.slice b lenb capb))
  go_enter Tryz.func76, Tryz.ntmps76
  go_upto_region 5 with fail
  obtain ⟨W0, hW0⟩ : ∃ W0, W0 = (((w.alloc (.cells #[.int .i64 s, .slice a lena capa] 135)).alloc (.cells #[.int .i64 s, .slice b lenb capb] 135)).alloc (.cells #[.int .i64 0, .slice none 0 0] 135)) := ⟨_, rfl⟩
  rw [← hW0] at HP
  rw [← hW0]
  clear hW0
  go_upto_region 6 with fail
  have HG := Lib.hid (gath_start HP.out)
  obtain ⟨W1, hW1⟩ : ∃ W1, W1 = W0.alloc (.cells #[] 3) := ⟨_, rfl⟩
  rw [← hW1] at HG
  rw [← hW1]
  clear hW1
  obtain ⟨_, hz3, c0, c1, c2, c3, _⟩ := HG.out.1
  go_wp2_with fail
  clear c0 c1 c2 c3 hz3
  go_loopw [5, 6, 7, 8] (fun v o i _ W => ∃ (k : Nat) (ov : Int), k ≤ M + 1 ∧ i = .int .i64 k ∧ o = .int .i64 ov ∧ PlusAt w (.int .i64 s) (.slice a lena capa) (.int .i64 s) (.slice b lenb capb) la lb v ov k W) (fun _ _ i _ _ => M + 2 - (intOf i).toNat)
  case atStart => exact ⟨0, 0, by omega, rfl, rfl, [], HG.out, rfl, by omega, by omega, by simp [lval, vTo]⟩
  case round =>
    obtain ⟨k, ov, hk, rfl, rfl, hA⟩ := hrel
    obtain ⟨l, hG, hl, o0, o1, hv⟩ := hA
    have hMb : M ≤ 900 ∧ lena ≤ M ∧ lenb ≤ M := by have := HM.out; omega
    obtain ⟨m1, m2, m3⟩ := hMb
    have HV := Lib.hid hv; have HL := Lib.hid hl; have HGa := Lib.hid hG
    clear hv
    obtain ⟨_, hz3, c0, c1, c2, c3, _⟩ := hG.1
    have hbw : Below w.heap.size w wr := hG.1.1
    have DA := Lib.hid (HA.out.below hbw); have DB := Lib.hid (HB.out.below hbw)
    clear hbw hG
    by_cases hkM : k ≤ M
    · have da := dg_ok OA.out k; have db := dg_ok OB.out k
      obtain ⟨da0, da9⟩ := da
      obtain ⟨db0, db9⟩ := db
      have hl' : l.length ≤ 901 := by omega
      clear hl
      rcases HM.out with ⟨q1, rfl⟩ | ⟨q1, rfl⟩
      all_goals
        go_upto_region 11 with fail
        go_quiet (first | (go_at_call 111; with_reducible exact quiet_left (at_k (DA.out.drewN _) k _ EA.out)) | (go_at_call 111; with_reducible exact quiet_left (at_k (DB.out.drewN _) k _ EB.out)))
        have HG2 := Lib.hid (HGa.out.drewN nq)
        obtain ⟨Wq, hWq⟩ : ∃ Wq, Wq = wr.drewN nq := ⟨_, rfl⟩
        rw [← hWq] at HG2
        rw [← hWq]
        clear hWq c0 c1 c2 c3 hz3 DA DB HGa
        have HV2 := Lib.hid (plus_step (over := ov) HL.out HV.out)
        clear HV
        have D0 : 0 ≤ dg la k + dg lb k + ov := by omega
        have D9 : dg la k + dg lb k + ov ≤ 1999 := by omega
        clear da0 da9 db0 db9 o0 o1
        generalize dg la k + dg lb k + ov = D at *
        have hown := HG2.out.2.1
        have HST : Hid (∀ (v' : Value) (w1 : World), w1.ownsRow (w.heap.size + 3) 3 1 v' (l.length + 1) (l.map (Value.int .i64) ++ [.int .i64 (D % 1000)]) → (Wq.alloc (.cells #[.int .i64 (D % 1000)] 3)).grownBy w1 u5.ownBlock → Gath w w1 (.int .i64 s) (.slice a _ capa) (.int .i64 s) (.slice b _ capb) v' (l ++ [D % 1000])) :=
          fun v' w1 g1 g2 => gath_step HG2.out (by omega) (by omega) g1 g2
        have hB : w.heap.size + 3 ≤ Wq.heap.size := HG2.out.1.2.1
        clear HG2
        go_wp2_with (first | (at_builtin; refine wpList_append_own _ rfl _ _ 49 rfl (w.heap.size + 3) 3 i0 (.int .i64 0) 1 8 Tryz.underlying49 hi hz0 hz1 hz2 rfl (by decide) _ _ _ rfl (World.ownsRow.alloc hown _) ⟨Wq.heap.size, 0, none⟩ 1 1 [.int .i64 (D % 1000)] rfl rfl (one_news _ _ _) (one_cell _) ?c3 ?c4 ?c5 ?_))
        case c3 => unfold maxLen; omega
        case c4 => omega
        case c5 => omega
        intro v' w1 hown' hgrow _
        have HN2 := Lib.hid (HST.out v' w1 hown' hgrow)
        clear hown' hgrow hown HST
        go_wp2_with fail
        go_roundw
        case rel => exact ⟨k + 1, D / 1000, by omega, by go_num, rfl, l ++ [D % 1000], HN2.out, by rw [List.length_append, HL.out]; rfl, by omega, by omega, HV2.out⟩
        case measure => simp [intOf]; omega
    · have hkM2 : k = M + 1 := by omega
      subst hkM2
      have HE := Lib.hid (plus_end (i := M) (over := ov) OA.out OB.out HGa.out.2.2 o0 (by have := EA.out; omega) (by have := EB.out; omega) HV.out)
      have hl' : l.length ≤ 901 := by omega
      obtain ⟨a', cap', rfl⟩ := own_form HGa.out.2.1
      have HC := Lib.hid (made_any s HS.out HGa.out.2.1 HGa.out.2.2 (by omega) n (by rw [HE.out]; exact HN.out))
      clear hl HV HL
      rcases HM.out with ⟨q1, rfl⟩ | ⟨q1, rfl⟩
      all_goals
        go_wp2_with fail
        refine HC.out.mono ?_
        rintro e w1 ⟨s', a2, len2, cap2, rfl, hE, hb1⟩
        have HE1 := Lib.hid hE
        have HP1 := Lib.hid (HGa.out.1.up hb1 HGa.out.1.2.1)
        clear hE hb1 c0 c1 c2 c3
        obtain ⟨d0, d1, g0, g1⟩ := HP1.out.2.2.2.2.2.2.1
        go_wp2_with fail
        exact bodyPost_ret (v := .agg #[.int .i64 s', .slice a2 len2 cap2]) (by simp [results, Tryz.results76, go_sem, d0, d1]) rfl
          ⟨s', a2, len2, cap2, rfl, ex_store HP1.out.2.2.2.2.2.2 HE1.out _ _, (HP1.out.1.setCell (by show w.heap.size ≤ w.heap.size + 1 + 1; omega) _).setCell (by show w.heap.size ≤ w.heap.size + 1 + 1; omega) _⟩
end Go.Proofs.YtklaonoekmhakaaGreat
