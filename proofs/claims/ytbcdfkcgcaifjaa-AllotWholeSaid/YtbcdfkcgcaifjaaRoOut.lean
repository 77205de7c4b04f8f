/- Contract: the reference's Out. -/
import Derived.Test.YtbcdfkcgcaifjaaPoNear
import Derived.Test.YtbcdfkcgcaifjaaRef
namespace Go.Proofs.Ytbcdfkcgcaifjaa
open Go.RowKit

/-- the marks told so far -/
def valsTo (f : Nat → Int) (k : Nat) : List Value := (List.range k).map fun t => Value.int .i64 (f t)
theorem valsTo_step (f : Nat → Int) (k : Nat) : valsTo f (k + 1) = valsTo f k ++ [.int .i64 (f k)] := by
  unfold valsTo; rw [List.range_succ, List.map_append]; rfl
theorem valsTo_get (f : Nat → Int) {k j : Nat} (h : j < k) : (valsTo f k)[j]? = some (.int .i64 (f j)) := by
  unfold valsTo; rw [List.getElem?_map, List.getElem?_range h]; rfl
theorem vals_ints {W : World} {B m : Nat} {e : TypeId} {v : Value} {h : Nat → Int} (hm : 0 < m) (o : W.ownsRow B e 1 v m (valsTo h m)) : ∃ g c, v = .slice (some ⟨g, 0, none⟩) m c ∧ B ≤ g ∧ Ints W g m h := by
  have o' := o
  obtain ⟨_, ⟨_, q⟩ | ⟨g, c, cur, rfl, hg, _⟩⟩ := o
  · omega
  · exact ⟨g, c, rfl, hg, fun k hk => ⟨by rw [o'.cellAt k (by omega), valsTo_get h hk], o'.frozenAt k⟩⟩
theorem owns_lt {W : World} {B : Nat} {e : TypeId} {sz : Nat} {v : Value} {n : Nat} {xs : List Value} (h : W.ownsRow B e sz v n xs) : ∀ k, v.ownBlock = some k → B ≤ k ∧ ∃ cur, W.heap[k]? = some (.cells cur e (0, 0)) := by
  intro k hk
  obtain ⟨_, ⟨rfl, _⟩ | ⟨g, cap, cur, rfl, hg, hh, _⟩⟩ := h
  · simp [Value.ownBlock] at hk
  · simp [Value.ownBlock] at hk; subst hk; exact ⟨hg, cur, hh⟩
theorem owns_block {W W' : World} {B : Nat} {e : TypeId} {sz : Nat} {v : Value} {n : Nat} {xs : List Value} (h : W.ownsRow B e sz v n xs) (hk : ∀ k, v.ownBlock = some k → W'.heap[k]? = W.heap[k]?) : W'.ownsRow B e sz v n xs := by
  obtain ⟨h1, h2⟩ := h
  refine ⟨h1, ?_⟩
  rcases h2 with h2 | ⟨g, cap, cur, rfl, hg, hh, h3⟩
  · exact .inl h2
  · exact .inr ⟨g, cap, cur, rfl, hg, by rw [hk g rfl]; exact hh, h3⟩
theorem owns_below {W W' : World} {B : Nat} {e : TypeId} {sz : Nat} {v : Value} {n : Nat} {xs : List Value} (h : W.ownsRow B e sz v n xs) (hb : Below W.heap.size W W') : W'.ownsRow B e sz v n xs :=
  owns_block h fun k hk => by obtain ⟨_, cur, hh⟩ := owns_lt h k hk; exact hb.block k (heap_lt hh)
/-- a list grows: an exact number in its own block stays -/
theorem Ex.keep {W W' : World} {row : Option Nat} {s : Int} {a : Option Addr} {len cap : Nat} {n : Int} (h : Ex W s a len cap n) (hg : W.grownBy W' row) (hr : ∀ g, row = some g → ∃ cur, W.heap[g]? = some (.cells cur 2 (0, 0))) : Ex W' s a len cap n := by
  obtain ⟨h1, l, h2, h3, h4⟩ := h
  refine ⟨h1, l, h2, ?_, h4⟩
  rcases h3 with h | ⟨g, q1, q2, ⟨cur, fr, q3⟩, q4⟩
  · exact .inl h
  · have hne : some g ≠ row := by
      intro e
      obtain ⟨C, hT⟩ := hr g e.symm
      rw [q3] at hT; simp at hT
    exact .inr ⟨g, q1, q2, ⟨cur, fr, by rw [hg.block g (heap_lt q3) hne]; exact q3⟩, fun i hi => hg.cell (q4 i hi) hne⟩
theorem Box.keep {W W' : World} {row : Option Nat} {p : Nat} {s : Int} {a : Option Addr} {len cap : Nat} {n : Int} (h : Box W p s a len cap n) (hg : W.grownBy W' row) (hr : ∀ g, row = some g → ∃ cur, W.heap[g]? = some (.cells cur 2 (0, 0))) : Box W' p s a len cap n := by
  obtain ⟨h1, ⟨C, fr, h2⟩, h3⟩ := h
  have hne : some p ≠ row := by
    intro e
    obtain ⟨C', hT⟩ := hr p e.symm
    rw [h2] at hT; simp at hT
  exact ⟨h1.grown hg hne, ⟨C, fr, by rw [hg.block p (heap_lt h2) hne]; exact h2⟩, h3.keep hg hr⟩

/-- while the reference gathers parts: the list, and what is left -/
structure L3 (w : World) (B q k : Nat) (vo : Value) (fp : Nat → Int) (m s : Int) (x : Option Addr) (l c : Nat) (W : World) : Prop where
  bel : Below w.heap.size w W
  own : W.ownsRow B 2 1 vo k (valsTo fp k)
  box : Box W q s x l c m
  b0 : w.heap.size ≤ B
  q0 : w.heap.size ≤ q
  bs : B ≤ W.heap.size
variable {w W W' : World} {B q k : Nat} {vo : Value} {fp : Nat → Int} {m s : Int} {x : Option Addr} {l c : Nat}
theorem L3.up (h : L3 w B q k vo fp m s x l c W) (hb : Below W.heap.size W W') : L3 w B q k vo fp m s x l c W' :=
  ⟨up2 h.bel hb, owns_below h.own hb, h.box.below hb, h.b0, h.q0, Nat.le_trans h.bs hb.size⟩
theorem L3.drew (h : L3 w B q k vo fp m s x l c W) : L3 w B q k vo fp m s x l c W.drew := h.up (Below.refl _ _).drew
theorem L3.put (h : L3 w B q k vo fp m s x l c W) {t m' : Int} {y : Option Addr} {l2 c2 : Nat} (hE : Ex W t y l2 c2 m') :
    L3 w B q k vo fp m' t y l2 c2 ((W.setCell ⟨q, 0, none⟩ (.int .i64 t)).setCell ⟨q, 1, none⟩ (.slice y l2 c2)) := by
  refine ⟨(h.bel.setCell h.q0 _).setCell h.q0 _, owns_block h.own fun g hg => ?_, h.box.put hE, h.b0, h.q0, by simpa using h.bs⟩
  obtain ⟨_, cur, hh⟩ := owns_lt h.own g hg
  obtain ⟨_, ⟨C, fr, h2⟩, _⟩ := h.box
  have hne : g ≠ q := by intro e; subst e; rw [h2] at hh; simp at hh
  rw [Below.heap_setCell _ _ _ _ hne, Below.heap_setCell _ _ _ _ hne]
theorem L3.more (h : L3 w B q k vo fp m s x l c W) {vo' : Value} {w1 : World} {o : Obj} (h1 : w1.ownsRow B 2 1 vo' (k + 1) (valsTo fp k ++ [.int .i64 (fp k)])) (h2 : (W.alloc o).grownBy w1 vo.ownBlock) : L3 w B q (k + 1) vo' fp m s x l c w1 := by
  have ha : Below W.heap.size W (W.alloc o) := (Below.refl _ _).alloc (Nat.le_refl _) _
  have hA := h.up ha
  refine ⟨hA.bel.grown h2 hA.bel.size (fun g hg => ?_), by rw [valsTo_step]; exact h1, hA.box.keep h2 (fun g hg => ?_), h.b0, h.q0, Nat.le_trans hA.bs h2.size⟩
  · have := (owns_lt h.own g hg).1; have := h.b0; omega
  · exact (owns_lt hA.own g hg).2
theorem L3.ex (h : L3 w B q k vo fp m s x l c W) : Ex W s x l c m := h.box.2.2

def someB (f : Nat → Int) : Nat → Bool
  | 0 => false
  | k + 1 => someB f k || decide (0 < f k)
theorem someB_iff (f : Nat → Int) (n : Nat) : someB f n = true ↔ ∃ t, t < n ∧ 0 < f t := by
  induction n with
  | zero => simp [someB]
  | succ n ih =>
    simp only [someB, Bool.or_eq_true, ih, decide_eq_true_eq]
    constructor
    · rintro (⟨t, h1, h2⟩ | h)
      · exact ⟨t, by omega, h2⟩
      · exact ⟨n, by omega, h⟩
    · rintro ⟨t, h1, h2⟩
      by_cases e : t = n
      · subst e; exact .inr h2
      · exact .inl ⟨t, by omega, h2⟩
/-- how many get one more ahead of a place, as the reference counts them -/
theorem key_iff {n : Nat} {K : Nat → Int} {a b : Nat} (ha : a < n) (hb : b < n) : key n K a < key n K b ↔ (K b < K a ∨ (K a = K b ∧ a < b)) := by
  rcases Nat.lt_trichotomy a b with h | h | h
  · have e := key_gt (n := n) (K := K) (x := a) (y := b) (by omega) (by omega) (by omega)
    simp only [Int.toNat_natCast] at e
    rw [e]; omega
  · subst h; omega
  · have e := key_lt (n := n) (K := K) (x := b) (y := a) (by omega) (by omega) (by omega)
    simp only [Int.toNat_natCast] at e
    rw [e]; omega

def RListed (w : World) (err : Int) (n : Nat) (v : Nat → Int) (e : Ending) (w' : World) : Prop :=
  Below w.heap.size w w' ∧ ((err ≠ 0 ∧ e = .returned (.tuple #[.slice none 0 0, .int .i64 err])) ∨
    (err = 0 ∧ ∃ p c, e = .returned (.tuple #[.slice (some ⟨p, 0, none⟩) n c, .int .i64 0]) ∧ w.heap.size ≤ p ∧ Ints w' p n v))

theorem total_arg (f : Nat → Int) (a : Option Addr) (n cap : Nat) (w : World) (hf : Amounts f) (hn : n ≤ 1000) (hA : Arg w a n f) : Calls Try.prog 31 #[.slice a n cap] w (ExPost w (sumN f n)) := by
  by_cases h0 : n = 0
  · subst h0; exact total_zero a cap w
  · obtain ⟨b, off, rfl, hr⟩ := hA (by omega)
    rw [← sumTo_eq]
    exact total_some f hf b off n cap w hn hr
theorem sumN_small {f : Nat → Int} (hf : Amounts f) {k : Nat} (hk : k ≤ 1000) : Small (sumN f k) := by rw [← sumTo_eq]; exact sum_small hf hk
theorem miss_am {size s : Int} {f : Nat → Int} {n : Nat} (W : Weights f n s) (h : 0 ≤ size) (z1 : size ≤ 9223372036854775807) {k : Nat} (hk : k ≤ n) : Am (size - sumN (partV size f s) k) := by
  have := W.left h hk; unfold Am; omega

theorem rank_bd (n : Nat) (K : Nat → Int) (i d : Nat) : 0 ≤ sumN (fun t => if key n K t < key n K i then 1 else 0) d ∧ sumN (fun t => if key n K t < key n K i then 1 else 0) d ≤ d := by
  induction d with
  | zero => simp [sumN]
  | succ d ih => simp only [sumN]; split <;> omega

set_option maxRecDepth 1000000 in
set_option maxHeartbeats 40000000 in
theorem rout_main (total : Int) (f : Nat → Int) (a : Option Addr) (n cap : Nat) (w : World) (hf : Amounts f) (t0 : 0 ≤ total) (t2 : total ≤ 9223372036854775807) (hE : outE total f n = 0) (hA : Arg w a n f) :
    Calls Try.prog 20 #[.int .i64 total, .slice a n cap] w (RListed w 0 n (shareV total f (sumN f n) n)) := by
  obtain ⟨i0, hi, hz0, hz1, hz2⟩ := info_parts Try.infoI64
  obtain ⟨hn, hW, hs1, hm⟩ := outE_ok hE
  obtain ⟨b, off, ha, hr⟩ := hA hW.n0
  subst ha
  have HW := Lib.hid hW
  have HR := Lib.hid hr
  have HF := Lib.hid hf
  have h0 := hW.n0
  have s0 := hW.s0
  have hz : ¬ (64 : Int) < (n : Int) := by omega
  have HSm : Hid (someB f n = true) := (someB_iff f n).2 (by
    apply Classical.byContradiction; intro q
    have : sumN f n ≤ 0 := by
      have e := sumN_le (f := f) (g := fun _ => 0) (n := n) (fun k hk => by apply Int.le_of_not_gt; intro q2; exact q ⟨k, hk, q2⟩)
      rwa [sumN_zero (fun _ _ => rfl)] at e
    omega)
  obtain ⟨s, hse⟩ : ∃ s, s = sumN f n := ⟨_, rfl⟩
  rw [← hse] at HW hs1 s0 ⊢
  have HSE := Lib.hid hse
  have hm1 : (total == -9223372036854775808) = false := by simp; omega
  have ht1 : ¬ total < 0 := by omega
  clear hA hr hf hW hE hm hse
  go_enter Try.func20, Try.ntmps20
  go_wp2_with fail
  go_loop [6, 7] (fun vs vi => ∃ k : Nat, k ≤ n ∧ vi = .int .i64 k ∧ vs = .bool (someB f k)) (fun _ vi => n - (intOf vi).toNat)
  case atStart => exact ⟨0, Nat.zero_le _, rfl, rfl⟩
  case round =>
    obtain ⟨k, hk, rfl, rfl⟩ := hrel
    by_cases hlt : k < n
    · have c1 := HR.out k hlt
      have c2 : ¬ f k < 0 := by have := HW.out.pos k hlt; omega
      by_cases hb : someB f k = true
      · have hb2 : someB f (k + 1) = true := by simp [someB, hb]
        go_wp2_with fail
        go_round
        case rel => exact ⟨k + 1, by omega, by go_num, by rw [hb2]⟩
        case measure => simp [intOf]; omega
      · have hb1 : someB f k = false := by simpa using hb
        have hb2 : someB f (k + 1) = decide (0 < f k) := by simp [someB, hb1]
        clear hb
        go_wp2_with fail
        go_round
        case rel => exact ⟨k + 1, by omega, by go_num, by rw [hb2]⟩
        case measure => simp [intOf]; omega
    · have hke : k = n := by omega
      subst hke
      have hsb := HSm.out
      go_wp2_with fail
      refine (total_arg f (some ⟨b, off, none⟩) k cap w HF.out (by omega) (arg_of HR.out)).mono ?_
      rintro e w1 ⟨s1, x1, n1, p1, rfl, hE1, hb1⟩
      have HB1 := Lib.hid hb1
      have E1 := Lib.hid hE1
      clear hb1 hE1
      go_wp2_with fail
      refine (fit_any s1 (sumN f k) x1 n1 p1 w1 E1.out (sumN_small HF.out (by omega))).mono ?_
      rintro e w2 ⟨rfl, hb2⟩
      have HB2 := Lib.hid (up2 HB1.out hb2)
      rw [← HSE.out, (tell_in (v := s) (by omega) hs1).1, (tell_in (v := s) (by omega) hs1).2]
      clear hb2 E1 HB1 hsb HSm
      go_wp2_with fail
      refine (of_any total _ (by omega) t2).mono ?_
      rintro e w3 ⟨s3, x3, n3, p3, rfl, hE3, hb3⟩
      have HL : Hid (L3 w w2.heap.size w3.heap.size 0 (.slice (some ⟨w2.heap.size, 0, none⟩) 0 0) (partV total f s) (total - sumN (partV total f s) 0) s3 x3 n3 p3 (w3.alloc (.cells #[.int .i64 s3, .slice x3 n3 p3] 45))) := by
        have e1 := HB2.out.size; have e2 := hb3.size
        have bb : Below w.heap.size w w3 := up2 (up1 HB2.out _) hb3
        have own0 : (w2.alloc (.cells #[] 2)).ownsRow w2.heap.size 2 1 (.slice (some ⟨w2.heap.size, 0, none⟩) 0 0) 0 (valsTo (partV total f s) 0) :=
          ⟨rfl, .inr ⟨w2.heap.size, 0, #[], rfl, Nat.le_refl _, heap_alloc_new w2 _, Nat.le_refl _, Nat.zero_le _, rfl, rfl⟩⟩
        have ha : Below w3.heap.size w3 (w3.alloc (.cells #[.int .i64 s3, .slice x3 n3 p3] 45)) := (Below.refl _ _).alloc (Nat.le_refl _) _
        simp only [World.size_alloc] at e2
        exact ⟨up1 bb _, owns_below (owns_below own0 hb3) ha, by rw [show total - sumN (partV total f s) 0 = total by simp [sumN]]; exact Box.new w3 hE3, e1, by omega, by simp; omega⟩
      go_wp2_with fail
      obtain ⟨W4, hW4⟩ : ∃ W4, W4 = w3.alloc (.cells #[.int .i64 s3, .slice x3 n3 p3] 45) := ⟨_, rfl⟩
      obtain ⟨B, hBe⟩ : ∃ B, B = w2.heap.size := ⟨_, rfl⟩
      obtain ⟨q, hqe⟩ : ∃ q, q = w3.heap.size := ⟨_, rfl⟩
      rw [← hW4, ← hBe, ← hqe] at HL
      rw [← hW4, ← hBe, ← hqe]
      clear hW4 hBe hqe hE3 hb3 HB2
      go_loopw [13, 15] (fun vo vi wr => ∃ j : Nat, j ≤ k ∧ vi = .int .i64 j ∧ ∃ s' x' l' c', L3 w B q j vo (partV total f s) (total - sumN (partV total f s) j) s' x' l' c' wr) (fun _ vi _ => k - (intOf vi).toNat)
      case atStart => exact ⟨0, Nat.zero_le _, rfl, _, _, _, _, HL.out⟩
      case round =>
        clear HL
        obtain ⟨j, hj, rfl, s', x', l', c', hL⟩ := hrel
        have HL := Lib.hid hL
        clear hL
        by_cases hjk : j < k
        · have c1 : wr.cell? ⟨b, off + j, none⟩ = some (.int .i64 (f j)) := kcell HL.out.bel (HR.out j hjk)
          have HFj : Hid (0 ≤ f j ∧ Am (f j)) := ⟨HW.out.pos j hjk, HF.out j⟩
          have HP : Hid (tellV (total * f j / s) = partV total f s j ∧ Am (partV total f s j)) := by
            have a1 := HW.out.part0 t0 hjk; have a2 := HW.out.room t0 hjk; have a3 := HW.out.miss0 (size := total)
            exact ⟨(tell_in (v := partV total f s j) (by omega) (by omega)).1, by unfold Am; omega⟩
          have hjz : (j : Int) < (k : Int) := by omega
          go_wp2_with fail
          refine (rpart_any total (f j) s _ ⟨by omega, t2⟩ HFj.out.1 HFj.out.2 s0 ⟨by omega, hs1⟩).mono ?_
          rintro e w5 ⟨rfl, hb5⟩
          rw [HP.out.1]
          have HL5 := Lib.hid (HL.out.up hb5)
          clear hb5 HL c1
          have HM : Hid (Small (total - sumN (partV total f s) j)) := small64 (miss_am HW.out t0 t2 (k := j) hj).1 (miss_am HW.out t0 t2 (k := j) hj).2
          have HMp : Hid (Small (partV total f s j)) := small64 HP.out.2.1 HP.out.2.2
          have HM1 : Hid (total - sumN (partV total f s) j - partV total f s j = total - sumN (partV total f s) (j + 1)) := by show _ = _; simp only [sumN]; omega
          obtain ⟨pj, hpj⟩ : ∃ pj, pj = partV total f s j := ⟨_, rfl⟩
          rw [← hpj] at HP HM1 HMp
          rw [← hpj]
          have HPE := Lib.hid hpj
          have hown := HL5.out.own
          have hBs := HL5.out.bs
          have HST : Hid (∀ (vo' : Value) (w1 : World), w1.ownsRow B 2 1 vo' (j + 1) (valsTo (partV total f s) j ++ [.int .i64 pj]) → (w5.alloc (.cells #[.int .i64 pj] 2)).grownBy w1 u13.ownBlock → L3 w B q (j + 1) vo' (partV total f s) (total - sumN (partV total f s) j) s' x' l' c' w1) := fun vo' w1 g1 g2 => by rw [HPE.out] at g1; exact HL5.out.more g1 g2
          clear hpj
          go_wp2_with (first | (at_builtin; refine wpList_append_own _ rfl _ _ 22 rfl B 2 i0 (.int .i64 0) 1 8 Try.underlying22 hi hz0 hz1 hz2 rfl (by decide) _ _ _ rfl (World.ownsRow.alloc hown _) ⟨w5.heap.size, 0, none⟩ 1 1 [.int .i64 pj] rfl rfl (one_news _ _ _) (one_cell _) ?c3 ?c4 ?c5 ?_))
          case c3 => unfold maxLen; omega
          case c4 => omega
          case c5 => first | omega | (simp; omega)
          intro vo' w6 hown' hgrow _
          have HL6 := Lib.hid (HST.out vo' w6 hown' hgrow)
          clear hown' hgrow hown HST HL5 hBs
          obtain ⟨c0, c1, e0, e1⟩ := HL6.out.box.1
          have p1 := HP.out.2.1
          have p2 := HP.out.2.2
          go_wp2_with fail
          go_region_with (first | (go_at_call 27; ((with_reducible refine (of_any pj _ p1 p2).mono ?_); rintro e w7 ⟨s7, x7, n7, p7, rfl, hE7, hb7⟩; have k7 := Lib.hid (HL6.out.drew.up hb7); have e7 := Lib.hid hE7; clear hE7 hb7; obtain ⟨y0, y1, y2, y3⟩ := k7.out.box.1)) | (go_at_call 29; ((with_reducible refine (less_ex s' s7 (total - sumN (partV total f s) j) pj x' x7 l' n7 c' p7 _ k7.out.ex e7.out HM.out HMp.out).mono ?_); rintro e w8 ⟨s8, x8, n8, p8, rfl, hE8, hb8⟩; have k8 := Lib.hid (k7.out.up hb8); have e8 := Lib.hid hE8; clear hE8 hb8; obtain ⟨z0, z1, z2, z3⟩ := k8.out.box.1)))
          all_goals
            go_wp2_with fail
            go_roundw
            case rel =>
              have ee := e8.out
              rw [HM1.out] at ee
              exact ⟨j + 1, by omega, by go_num, s8, x8, n8, p8, k8.out.put ee⟩
            case measure => simp [intOf]; omega
        · have hje : j = k := by omega
          subst hje
          clear hjk
          obtain ⟨c0, c1, _, _⟩ := HL.out.box.1
          obtain ⟨M, hM⟩ : ∃ M, M = missV total f s j := ⟨_, rfl⟩
          have HMe : Hid (total - sumN (partV total f s) j = M) := by show _ = _; rw [hM]; rfl
          have HMa : Hid (Am M) := by have := miss_am HW.out t0 t2 (k := j) (Nat.le_refl _); rw [HMe.out] at this; exact this
          have HEx := Lib.hid HL.out.ex
          rw [HMe.out] at HEx
          have HM := Lib.hid hM
          clear hM
          go_wp2_with fail
          refine (fit_any s' M x' l' c' _ HEx.out (small64 HMa.out.1 HMa.out.2)).mono ?_
          rintro e w5 ⟨rfl, hb5⟩
          rw [(tell_in HMa.out.1 HMa.out.2).1, (tell_in HMa.out.1 HMa.out.2).2]
          have HL5 := Lib.hid (HL.out.up hb5)
          clear hb5 HL c0 c1 HEx HMe
          obtain ⟨g, cg, hv, hg, hints⟩ := vals_ints h0 HL5.out.own
          subst hv
          have HN : Hid (NearAt w (some ⟨b, off, none⟩) g j f (fun t => if t < 0 then shareV total f s j t else partV total f s t) w5) := ⟨HL5.out.bel, ints_same hints (fun t _ => by simp), fun _ => ⟨b, off, rfl, fun t ht => kcell HL5.out.bel (HR.out t ht)⟩⟩
          have HG : Hid (w.heap.size ≤ g) := by have := HL5.out.b0; show _ ≤ g; omega
          clear hints hg HL5
          go_wp2_with fail
          go_loopw [20] (fun vi wr => ∃ i : Nat, i ≤ j ∧ vi = .int .i64 i ∧ NearAt w (some ⟨b, off, none⟩) g j f (fun t => if t < i then shareV total f s j t else partV total f s t) wr) (fun vi _ => j - (intOf vi).toNat)
          case atStart => exact ⟨0, Nat.zero_le _, rfl, HN.out⟩
          case round =>
            clear HN
            obtain ⟨i, hi', rfl, hN⟩ := hrel
            have HN := Lib.hid hN
            clear hN
            by_cases hij : i < j
            · have c1 : wr.cell? ⟨b, off + i, none⟩ = some (.int .i64 (f i)) := kcell HN.out.bel (HR.out i hij)
              have HFi : Hid (0 ≤ f i ∧ Am (f i)) := ⟨HW.out.pos i hij, HF.out i⟩
              have hijz : (i : Int) < (j : Int) := by omega
              go_wp2_with fail
              refine (rrest_any total (f i) s _ ⟨by omega, t2⟩ HFi.out.1 HFi.out.2 s0 ⟨by omega, hs1⟩).mono ?_
              rintro e w6 ⟨rfl, hb6⟩
              have HN6 := Lib.hid (HN.out.up hb6)
              clear hb6 HN c1
              obtain ⟨ri, hri⟩ : ∃ ri, ri = restV total f s i := ⟨_, rfl⟩
              have hri' : total * f i % s = ri := hri.symm
              rw [hri']
              have HRi := Lib.hid hri
              clear hri hri'
              go_wp2_with fail
              go_loopw [23, 24] (fun va vk wr => ∃ d : Nat, d ≤ j ∧ vk = .int .i64 d ∧ va = .int .i64 (sumN (fun t => if key j (restV total f s) t < key j (restV total f s) i then 1 else 0) d) ∧ NearAt w (some ⟨b, off, none⟩) g j f (fun t => if t < i then shareV total f s j t else partV total f s t) wr) (fun _ vk _ => j - (intOf vk).toNat)
              case atStart => exact ⟨0, Nat.zero_le _, rfl, rfl, HN6.out⟩
              case round =>
                clear HN6
                obtain ⟨d, hd, rfl, rfl, hN⟩ := hrel
                have HN := Lib.hid hN
                clear hN
                have HRk := Lib.hid (rank_bd j (restV total f s) i d)
                by_cases hdj : d < j
                · have c1 : wr.cell? ⟨b, off + d, none⟩ = some (.int .i64 (f d)) := kcell HN.out.bel (HR.out d hdj)
                  have HFd : Hid (0 ≤ f d ∧ Am (f d)) := ⟨HW.out.pos d hdj, HF.out d⟩
                  have hdjz : (d : Int) < (j : Int) := by omega
                  go_wp2_with fail
                  refine (rrest_any total (f d) s _ ⟨by omega, t2⟩ HFd.out.1 HFd.out.2 s0 ⟨by omega, hs1⟩).mono ?_
                  rintro e w7 ⟨rfl, hb7⟩
                  have HN7 := Lib.hid (HN.out.up hb7)
                  clear hb7 HN c1
                  have HK := Lib.hid (key_iff (n := j) (K := restV total f s) hdj hij)
                  rw [← HRi.out] at HK
                  obtain ⟨rd, hrd⟩ : ∃ rd, rd = restV total f s d := ⟨_, rfl⟩
                  have hrd' : total * f d % s = rd := hrd.symm
                  rw [hrd']
                  rw [← hrd] at HK
                  clear hrd hrd'
                  have HS : Hid (sumN (fun t => if key j (restV total f s) t < key j (restV total f s) i then 1 else 0) (d + 1) = sumN (fun t => if key j (restV total f s) t < key j (restV total f s) i then 1 else 0) d + if ri < rd ∨ (rd = ri ∧ d < i) then 1 else 0) := by
                    show _ = _
                    simp only [sumN]
                    by_cases q : ri < rd ∨ (rd = ri ∧ d < i)
                    · rw [if_pos q, if_pos (HK.out.2 q)]
                    · rw [if_neg q, if_neg (fun r => q (HK.out.1 r))]
                  obtain ⟨sa, hsa⟩ : ∃ sa, sa = sumN (fun t => if key j (restV total f s) t < key j (restV total f s) i then 1 else 0) d := ⟨_, rfl⟩
                  rw [← hsa] at HS HRk ⊢
                  clear hsa HK
                  have i1 : IntKind.i64.wrap (sa + 1) = sa + 1 := by have := HRk.out; rw [IntKind.wrap_i64]; omega
                  by_cases q1 : ri < rd
                  · rw [if_pos (.inl q1)] at HS
                    go_wp2_with fail
                    go_roundw
                    case rel => exact ⟨d + 1, by omega, by go_num, by rw [HS.out], HN7.out⟩
                    case measure => simp [intOf]; omega
                  · have q1z : decide (rd > ri) = false := by simp; omega
                    by_cases q2 : rd = ri
                    · have q2z : (rd == ri) = true := by simp [q2]
                      by_cases q3 : d < i
                      · rw [if_pos (.inr ⟨q2, q3⟩)] at HS
                        have q3z : (d : Int) < (i : Int) := by omega
                        clear q2
                        go_wp2_with fail
                        go_roundw
                        case rel => exact ⟨d + 1, by omega, by go_num, by rw [HS.out], HN7.out⟩
                        case measure => simp [intOf]; omega
                      · rw [if_neg (by omega)] at HS
                        have q3z : ¬ (d : Int) < (i : Int) := by omega
                        clear q2
                        go_wp2_with fail
                        go_roundw
                        case rel => exact ⟨d + 1, by omega, by go_num, by rw [HS.out, Int.add_zero], HN7.out⟩
                        case measure => simp [intOf]; omega
                    · rw [if_neg (by omega)] at HS
                      have q2z : (rd == ri) = false := by simp [q2]
                      go_wp2_with fail
                      go_roundw
                      case rel => exact ⟨d + 1, by omega, by go_num, by rw [HS.out, Int.add_zero], HN7.out⟩
                      case measure => simp [intOf]; omega
                · have hde : d = j := by omega
                  subst hde
                  have HRank : Hid (sumN (fun t => if key d (restV total f s) t < key d (restV total f s) i then 1 else 0) d = rankV d (restV total f s) i) := rfl
                  rw [HRank.out]
                  rw [HRank.out] at HRk
                  obtain ⟨rk, hrk⟩ : ∃ rk, rk = rankV d (restV total f s) i := ⟨_, rfl⟩
                  rw [← hrk]
                  have HSh : Hid (shareV total f s d i = partV total f s i + if rk < M then 1 else 0) := by show _ = _; unfold shareV; rw [hrk, HM.out]
                  have HRoom := Lib.hid (HW.out.room t0 hij)
                  have HP0 := Lib.hid (HW.out.part0 t0 hij)
                  have hk0 : 0 ≤ rk := by rw [hrk]; exact rankV_pos _ _ _
                  clear HRank hrk HRk hdj
                  by_cases hrm : rk < M
                  · rw [if_pos hrm] at HSh
                    have c1 := (HN.out.ints i hij).1
                    have c2 := (HN.out.ints i hij).2
                    simp only [if_neg (show ¬ i < i by omega)] at c1
                    obtain ⟨pv, hpv⟩ : ∃ pv, pv = partV total f s i := ⟨_, rfl⟩
                    rw [← hpv] at c1 HSh HRoom HP0
                    have i1 : IntKind.i64.wrap (pv + 1) = pv + 1 := by have r1 := HRoom.out; have r2 := HP0.out; rw [← HM.out] at r1; rw [IntKind.wrap_i64]; omega
                    clear hpv
                    go_wp2_with fail
                    go_roundw
                    case rel =>
                      refine ⟨i + 1, by omega, by go_num, HN.out.bel.setCell HG.out _, ints_same (ints_set HN.out.ints hij (pv + 1)) (fun t ht => ?_), fun _ => ⟨b, off, rfl, fun t ht => ?_⟩⟩
                      · by_cases e : t = i
                        · rw [if_pos (by omega), if_pos e, e, HSh.out]
                        · rw [if_neg e]
                          by_cases e2 : t < i
                          · rw [if_pos (by omega), if_pos e2]
                          · rw [if_neg (by omega), if_neg e2]
                      · exact kcell (HN.out.bel.setCell HG.out _) (HR.out t ht)
                    case measure => simp [intOf]; omega
                  · rw [if_neg hrm] at HSh
                    go_wp2_with fail
                    go_roundw
                    case rel =>
                      refine ⟨i + 1, by omega, by go_num, HN.out.bel, ints_same HN.out.ints (fun t ht => ?_), HN.out.arg⟩
                      by_cases e : t = i
                      · rw [if_pos (by omega), if_neg (by omega), e, HSh.out, Int.add_zero]
                      · by_cases e2 : t < i
                        · rw [if_pos (by omega), if_pos e2]
                        · rw [if_neg (by omega), if_neg e2]
                    case measure => simp [intOf]; omega
            · have hie : i = j := by omega
              subst hie
              go_wp2_with fail
              go_ret2
              exact ⟨HN.out.bel, .inr ⟨rfl, g, cg, rfl, HG.out, ints_same HN.out.ints (fun t ht => by rw [if_pos ht])⟩⟩
end Go.Proofs.Ytbcdfkcgcaifjaa
