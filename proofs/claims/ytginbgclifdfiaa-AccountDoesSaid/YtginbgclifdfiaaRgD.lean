/- The reference: Post. -/
import Derived.Test.YtginbgclifdfiaaRgDa
namespace Go.Proofs.Ytginbgclifdfiaa
open Go.RowKit

section
variable {w w' : World} {r : Nat} {S : Ld} {ve : Value} {vs : List Value} {O : Nat → Prop}
theorem tell_bad {n : Int} (h : ¬ Am n) : (tellE n != 0) = true := by
  have e : tellE n = 3 := by unfold tellE; exact if_neg h
  rw [e]; rfl
/-- with an entry more, is all of a place an amount? -/
def OkX (S : Ld) (k : Nat) (ps : List Po) (x : Po) : Prop := Am (rng x.a x.c k k (posted S k ps).L) ∧ ∀ q : Nat, k ≤ q → q < S.n → Am (rng x.a x.c 0 q (posted S k ps).L)
theorem rng_posted (S : Ld) (k : Nat) (ps : List Po) (a c lo hi : Int) (h0 : lo ≤ k) (h1 : (k : Int) ≤ hi) : rng a c lo hi (posted S k ps).L = rng a c lo hi S.L + sumP a c ps := by
  show rng a c lo hi (S.L ++ [_]) = _
  rw [rng_append, rng_one, if_pos ⟨h0, h1⟩]
theorem over_ok {S : Ld} {k : Nat} {ps : List Po} (h : ∀ x ∈ ps, OkX S k ps x) : overB S k ps = false := by
  refine List.any_eq_false.2 fun x hx => ?_
  obtain ⟨h1, h2⟩ := h x hx
  rw [rng_posted S k ps _ _ _ _ (Int.le_refl _) (Int.le_refl _)] at h1
  simp only [Bool.or_eq_true, not_or, Bool.not_eq_true', Bool.not_eq_false, List.any_eq_true, not_exists, not_and, List.mem_range, Bool.and_eq_true, decide_eq_true_eq]
  refine ⟨amB_iff.2 h1, fun q hq hk => ?_⟩
  have := h2 q (by omega) hq
  rw [rng_posted S k ps _ _ _ _ (by omega) (by omega)] at this
  exact amB_iff.2 this
theorem over_bad {S : Ld} {k : Nat} {ps : List Po} {x : Po} (hx : x ∈ ps) (h : ¬ OkX S k ps x) : overB S k ps = true := by
  cases hv : overB S k ps
  · exfalso
    obtain ⟨h1, h2⟩ := over_no hv hx
    refine h ⟨?_, fun q hq hn => ?_⟩
    · rw [rng_posted S k ps _ _ _ _ (Int.le_refl _) (Int.le_refl _)]; exact h1
    · rw [rng_posted S k ps _ _ _ _ (by omega) (by omega)]; exact h2 q (by omega) (by omega) (by omega)
  · rfl
theorem posted_ok {k : Nat} {ps : List Po} (F : Fine S) (hm : Ams ps) (hl : ps.length ≤ 32) (hfew : S.L.length < 5000) : RlOk (posted S k ps).L := by
  have h := fine_rlok F
  refine ⟨by show (S.L ++ [_]).length ≤ 5000; rw [List.length_append]; simp; omega, fun e he => ?_⟩
  rcases List.mem_append.1 he with h1 | h1
  · exact h.2 e h1
  · rw [List.mem_singleton.1 h1]; exact ⟨hl, fun x hx => (hm x hx).2.2⟩
/-- a posting's account and contract -/
def Pc (w : World) (b o j : Nat) (x : Po) : Prop := w.cell? ⟨b, o + j * 3, none⟩ = some (.int .i64 x.a) ∧ w.cell? ⟨b, o + j * 3 + 1, none⟩ = some (.int .i64 x.c)
theorem Pc.up {b o j : Nat} {x : Po} (h : Pc w b o j x) (q : Below w.heap.size w w') : Pc w' b o j x := ⟨kcell q h.1, kcell q h.2⟩
/-- the entry laid in for good -/
theorem Fin9.done {w1 W : World} {mb k : Nat} {ps : List Po} {v3 : Value} {vs3 : List Value} (h0 : Rl w r S O) (hw : Rlw w r S ve vs) (hin : Inr O r ve vs) (h : Fin9 w w1 mb S k ps v3 vs vs3) (hb : Below w1.heap.size w1 W) (hF : Fine (posted S k ps)) :
    RlR w r O (posted S k ps) (W.setCell ⟨r, 2, none⟩ v3) := by
  have hbW : Below w.heap.size w W := up2 h.bel hb
  have hW := h.rl.up hb
  have hh : Has W r 43 #[.int .i64 (S.n : Int), .int .i64 (S.op : Int), ve] := hw.head.up hbW
  refine RlR.of (ve := v3) (vs := vs3) h0 ⟨?_, own_keep hW.ents fun g hg => setCell_heap _ _ _ _ (own_type hW.ents hh (by decide) g hg), hW.lens, fun i e v he hv => ?_⟩ ⟨.inl hin.r, fun g hg => .inr (h.own g hg), fun v hv g hg => ?_⟩ hF ((Kp.of hbW).trans (Kp.set W ⟨r, 2, none⟩ v3 (O := fun b => b = r) rfl) (fun b e => .inl (by rw [e]; exact hin.r)))
  · exact hh.put 2 v3
  · have := hW.each i e v he hv
    exact own_keep this fun g hg => setCell_heap _ _ _ _ (own_type this hh (by decide) g hg)
  · rcases h.vs v hv with h1 | h1
    · exact .inl (hin.vs v h1 g hg)
    · exact .inr (h1 g hg)
def GpR (w : World) (r : Nat) (S : Ld) (O : Nat → Prop) (q : Int) (ps : List Po) (e : Ending) (w' : World) : Prop :=
  e = .returned (.tuple #[.int .i64 (postN S q ps), .int .i64 (postE S q ps)]) ∧ RlR w r O (postS S q ps) w'
theorem gpost_not {q : Int} {ps : List Po} {E : Int} (h : postE S q ps = E) (hE : E ≠ 0) : postN S q ps = 0 ∧ postS S q ps = S := by
  unfold postN postS
  rw [h, if_neg hE, if_neg hE]
  exact ⟨rfl, rfl⟩
theorem post_ref {q : Int} {ps : List Po} {E : Int} (h : refE S q ps = E) (hE : E ≠ 0) : postE S q ps = E := by
  unfold postE
  rw [h, if_pos hE]
set_option maxRecDepth 100000 in
set_option maxHeartbeats 8000000 in
theorem gpost_arg (q : Int) (a : Option Addr) (cap : Nat) (ps : List Po) (h : Rl w r S O) (hbad : q < 0 ∨ (S.n : Int) ≤ q ∨ ps.length < 1 ∨ 32 < ps.length) :
    Calls Try.prog 12 #[.pointer (some ⟨r, 0, none⟩), .int .i64 q, .slice a ps.length cap] w (GpR w r S O q ps) := by
  have hE : postE S q ps = 1 := by
    refine post_ref ?_ (by omega)
    unfold refE
    rw [if_pos]
    rcases hbad with h | h | h | h
    · exact .inl h
    · exact .inr (.inl h)
    · refine .inr (.inr ?_); unfold wellB; rw [decide_eq_false (show ¬ 1 ≤ ps.length by omega)]; simp
    · refine .inr (.inr ?_); unfold wellB; rw [decide_eq_false (show ¬ ps.length ≤ 32 by omega)]; simp
  obtain ⟨e1, e2⟩ := gpost_not hE (by omega)
  have HL := Lib.hid h
  obtain ⟨ve, vs, hw⟩ := h.lw
  obtain ⟨ea, ec, hrc, _⟩ := hw.rc
  have c0 := hrc.1
  unfold GpR
  rw [hE, e1, e2]
  clear h hw hrc hE e1 e2
  by_cases h1 : q < 0
  · go_enter Try.func12, Try.ntmps12
    go_wp2_with fail
    go_ret2
    exact ⟨rfl, RlR.same HL.out (Below.refl _ _)⟩
  · by_cases h2 : (S.n : Int) ≤ q
    · go_enter Try.func12, Try.ntmps12
      go_wp2_with fail
      go_ret2
      exact ⟨rfl, RlR.same HL.out (Below.refl _ _)⟩
    · by_cases h3 : (ps.length : Int) < 1
      · go_enter Try.func12, Try.ntmps12
        go_wp2_with fail
        go_ret2
        exact ⟨rfl, RlR.same HL.out (Below.refl _ _)⟩
      · have h4 : (32 : Int) < (ps.length : Int) := by omega
        clear hbad
        go_enter Try.func12, Try.ntmps12
        go_wp2_with fail
        go_ret2
        exact ⟨rfl, RlR.same HL.out (Below.refl _ _)⟩
theorem kn_not {a c : Int} (h : knB a c = false) : a < 0 ∨ (¬ a < 0 ∧ 3 < a) ∨ (¬ a < 0 ∧ ¬ 3 < a ∧ c < 0) ∨ (¬ a < 0 ∧ ¬ 3 < a ∧ ¬ c < 0 ∧ 39 < c) := by
  have : ¬ (0 ≤ a ∧ a ≤ 3 ∧ 0 ≤ c ∧ c < 40) := fun z => by rw [knB_iff.2 z] at h; cases h
  omega
set_option maxRecDepth 100000 in
set_option maxHeartbeats 16000000 in
theorem gpost_in (k : Nat) (a : Option Addr) (cap : Nat) (ps : List Po) (h : Rl w r S O) (hp : PsA w a ps) (hm : Ams ps) (hk : k < S.n) (hl1 : 1 ≤ ps.length) (hl2 : ps.length ≤ 32) :
    Calls Try.prog 12 #[.pointer (some ⟨r, 0, none⟩), .int .i64 (k : Int), .slice a ps.length cap] w (GpR w r S O k ps) := by
  have HL := Lib.hid h
  have HF := Lib.hid h.fine
  have HP := Lib.hid hp
  have HM := Lib.hid hm
  obtain ⟨ve, vs, hw, hin, _⟩ := h
  obtain ⟨ea, ec, hrc, hve⟩ := hw.rc
  have HW := Lib.hid hw
  have HIn := Lib.hid hin
  have HVe := Lib.hid hve
  have HRc := Lib.hid hrc
  have c0 := hrc.1
  have h1 : ¬ ((k : Int) < 0) := by omega
  have h2 : ¬ ((S.n : Int) ≤ (k : Int)) := by omega
  have h3 : ¬ ((ps.length : Int) < 1) := by omega
  have h4 : ¬ ((32 : Int) < (ps.length : Int)) := by omega
  clear hp hm hw hin hve hrc
  unfold GpR
  go_enter Try.func12, Try.ntmps12
  go_wp2_with fail
  clear c0 h1 h2 h3 h4
  go_loopw [8] (fun i wr => ∃ j : Nat, j ≤ ps.length ∧ i = .int .i64 j ∧ (∀ x ∈ ps.take j, knB x.a x.c = true) ∧ w = wr) (fun i _ => ps.length - (intOf i).toNat)
  case atStart => exact ⟨0, Nat.zero_le _, rfl, by simp, rfl⟩
  case round =>
    obtain ⟨j, hj, rfl, hkn, rfl⟩ := hrel
    have HKn := Lib.hid hkn
    clear hkn
    by_cases hlt : j < ps.length
    · obtain ⟨x, hx⟩ : ∃ x, ps[j]? = some x := ⟨_, List.getElem?_eq_getElem hlt⟩
      have HX := Lib.hid hx
      obtain ⟨b, o, rfl, z0, z1, z2⟩ := HP.out.at hx
      have hj0 : (0 : Int) ≤ (j : Int) := by omega
      have hj1 : (j : Int) < (ps.length : Int) := by omega
      clear hx z2
      cases hknx : knB x.a x.c
      · have hE : postE S k ps = 1 := by
          refine post_ref ?_ (by omega)
          unfold refE
          rw [if_pos]
          refine .inr (.inr ?_)
          unfold wellB
          rw [List.all_eq_false.2 ⟨x, List.mem_of_getElem? HX.out, by simp [hknx]⟩]; simp
        obtain ⟨e1, e2⟩ := gpost_not hE (by omega)
        have HR : Hid (postN S k ps = 0 ∧ postE S k ps = 1 ∧ postS S k ps = S) := ⟨e1, hE, e2⟩
        clear hE e1 e2
        rcases kn_not hknx with q1 | ⟨q1, q2⟩ | ⟨q1, q2, q3⟩ | ⟨q1, q2, q3, q4⟩
        all_goals
          clear hknx
          go_wp2_with fail
          go_ret2
          rw [HR.out.1, HR.out.2.1, HR.out.2.2]
          exact ⟨rfl, RlR.same HL.out (Below.refl _ _)⟩
      · have q := knB_iff.1 hknx
        have q1 : ¬ x.a < 0 := by omega
        have q2 : ¬ 3 < x.a := by omega
        have q3 : ¬ x.c < 0 := by omega
        have q4 : ¬ 39 < x.c := by omega
        have HKx := Lib.hid hknx
        clear hknx q
        go_wp2_with fail
        go_roundw
        case rel =>
          refine ⟨j + 1, by omega, by go_num, ?_, trivial⟩
          intro z hz
          rw [List.take_add_one, HX.out] at hz
          rcases List.mem_append.1 hz with h | h
          · exact HKn.out z h
          · simp at h; rw [h]; exact HKx.out
        case measure => simp [intOf]; omega
    · have hje : j = ps.length := by omega
      subst hje
      rw [List.take_length] at HKn
      have HWl : Hid (wellB ps = true) := well_iff.2 ⟨hl1, hl2, HKn.out⟩
      have c1 := HRc.out.2.1
      by_cases ho : (k : Int) < (S.op : Int)
      · have hE : postE S k ps = 7 := by
          refine post_ref ?_ (by omega)
          unfold refE
          rw [if_neg (by rw [HWl.out]; simp; omega), if_pos ho]
        obtain ⟨e1, e2⟩ := gpost_not hE (by omega)
        have HR : Hid (postN S k ps = 0 ∧ postE S k ps = 7 ∧ postS S k ps = S) := ⟨e1, hE, e2⟩
        clear hE e1 e2
        go_wp2_with fail
        go_ret2
        rw [HR.out.1, HR.out.2.1, HR.out.2.2]
        exact ⟨rfl, RlR.same HL.out (Below.refl _ _)⟩
      · go_wp2_with fail
        refine (geven_any a cap ps HP.out hl2 (fun x hx => (HM.out x hx).2.2)).mono ?_
        rintro e w1 ⟨rfl, hb⟩
        have HB := Lib.hid hb
        clear hb c1
        cases hev : evenB ps
        · have hE : postE S k ps = 10 := by
            refine post_ref ?_ (by omega)
            unfold refE
            rw [if_neg (by rw [HWl.out]; simp; omega), if_neg (by omega), if_pos hev]
          obtain ⟨e1, e2⟩ := gpost_not hE (by omega)
          have HR : Hid (postN S k ps = 0 ∧ postE S k ps = 10 ∧ postS S k ps = S) := ⟨e1, hE, e2⟩
          clear hE e1 e2 hev
          go_wp2_with fail
          go_ret2
          rw [HR.out.1, HR.out.2.1, HR.out.2.2]
          exact ⟨rfl, RlR.same HL.out HB.out⟩
        · have c2 := kcell HB.out HRc.out.2.2
          by_cases hfull : (5000 : Int) ≤ (S.L.length : Int)
          · have hE : postE S k ps = 4 := by
              refine post_ref ?_ (by omega)
              unfold refE
              rw [if_neg (by rw [HWl.out]; simp; omega), if_neg (by omega), if_neg (by rw [hev]; simp), if_pos (by omega)]
            obtain ⟨e1, e2⟩ := gpost_not hE (by omega)
            have HR : Hid (postN S k ps = 0 ∧ postE S k ps = 4 ∧ postS S k ps = S) := ⟨e1, hE, e2⟩
            clear hE e1 e2 hev
            go_wp2_with fail
            go_ret2
            rw [HR.out.1, HR.out.2.1, HR.out.2.2]
            exact ⟨rfl, RlR.same HL.out HB.out⟩
          · go_wp2_with fail
            go_cut [9] (fun s9 wx => ∃ mb v3 vs3, s9 = .pointer (some ⟨mb, 0, none⟩) ∧ Hid (Fin9 w wx mb S k ps v3 vs vs3))
            case first =>
              have hve := HVe.out
              subst hve
              have hw9 := HW.out
              have hfew : S.L.length < 5000 := by omega
              have b1 : Below w.heap.size w (w1.alloc (.cells #[] 52)).drew := (HB.out.alloc HB.out.size _).drew
              have b2 : Below w.heap.size w ((w1.alloc (.cells #[] 52)).alloc (.cells #[] 48)).drew := ((HB.out.alloc HB.out.size _).alloc (HB.out.alloc HB.out.size _).size _).drew
              have b3 : Below w.heap.size w ((w1.alloc (.cells #[] 48)).alloc (.cells #[] 52)).drew := ((HB.out.alloc HB.out.size _).alloc (HB.out.alloc HB.out.size _).size _).drew
              have HK0 : Hid (Rc w1.drew r S ea ec) := HRc.out.up HB.out.drew
              obtain ⟨A1, C1, U2, a2, c2', W4, a3, c3, W6, x1, x2, x3, k1, k2, k3, k4, k5, k6, k7, xF⟩ := ord1 (cap := cap) k ps hw9 b1 ((Has.fresh w1 52 #[]).up (Below.refl _ _).drew) HB.out.size HP.out hl1 hl2 hfew HRc.out
              have HX1 := Lib.hid x1; have HX2 := Lib.hid x2; have HX3 := Lib.hid x3; have HXF := Lib.hid xF
              have HK1 := Lib.hid k1; have HK2 := Lib.hid k2; have HK3 := Lib.hid k3; have HK4 := Lib.hid k4; have HK5 := Lib.hid k5; have HK6 := Lib.hid k6; have HK7 := Lib.hid k7
              clear x1 x2 x3 k1 k2 k3 k4 k5 k6 k7 xF
              obtain ⟨B1, D1, V2, e2, d2, V4, e3, d3, V6, x1, x2, x3, k1, k2, k4, k5, k6, k7, xF⟩ := ord2 (cap := cap) (g := w1.heap.size) (p := w1.heap.size + 1) k ps hw9 b2 (((Has.fresh w1 52 #[]).more _).up (Below.refl _ _).drew) HB.out.size ((show Has _ (w1.heap.size + 1) 48 #[] by have := Has.fresh (w1.alloc (.cells #[] 52)) 48 #[]; simpa using this).up (Below.refl _ _).drew) (by have := HB.out.size; omega) HP.out hl1 hl2 hfew HRc.out
              have HY1 := Lib.hid x1; have HY2 := Lib.hid x2; have HY3 := Lib.hid x3; have HYF := Lib.hid xF
              have HL1 := Lib.hid k1; have HL2 := Lib.hid k2; have HL4 := Lib.hid k4; have HL5 := Lib.hid k5; have HL6 := Lib.hid k6; have HL7 := Lib.hid k7
              clear x1 x2 x3 k1 k2 k4 k5 k6 k7 xF
              obtain ⟨G1, F1, Y2, f2, g2, Y4, f3, g3, Y6, x1, x2, x3, k1, k2, k4, k5, k6, k7, xF⟩ := ord2 (cap := cap) (g := w1.heap.size + 1) (p := w1.heap.size) k ps hw9 b3 ((show Has _ (w1.heap.size + 1) 52 #[] by have := Has.fresh (w1.alloc (.cells #[] 48)) 52 #[]; simpa using this).up (Below.refl _ _).drew) (by have := HB.out.size; omega) (((Has.fresh w1 48 #[]).more _).up (Below.refl _ _).drew) HB.out.size HP.out hl1 hl2 hfew HRc.out
              have HZ1 := Lib.hid x1; have HZ2 := Lib.hid x2; have HZ3 := Lib.hid x3; have HZF := Lib.hid xF
              have HM1 := Lib.hid k1; have HM2 := Lib.hid k2; have HM4 := Lib.hid k4; have HM5 := Lib.hid k5; have HM6 := Lib.hid k6; have HM7 := Lib.hid k7
              have HM0 : Hid (Rc (w1.alloc (.cells #[] 48)).drew r S ea ec) := HRc.out.up (HB.out.alloc HB.out.size _).drew
              clear x1 x2 x3 k1 k2 k4 k5 k6 k7 xF b1 b2 b3 hw9
              go_region_held3 (fun w' => w'.cell? ⟨r, 0, none⟩ = some (.int .i64 (S.n : Int)) ∧ w'.cell? ⟨r, 1, none⟩ = some (.int .i64 (S.op : Int)) ∧ w'.cell? ⟨r, 2, none⟩ = some (.slice ea S.L.length ec))
                (first | (change Rc _ r S ea ec; (first | with_reducible exact HK0.out | with_reducible exact HK1.out | with_reducible exact HK2.out | with_reducible exact HK3.out | with_reducible exact HK4.out | with_reducible exact HK5.out | with_reducible exact HK6.out | with_reducible exact HK7.out | with_reducible exact HL1.out | with_reducible exact HL2.out | with_reducible exact HL4.out | with_reducible exact HL5.out | with_reducible exact HL6.out | with_reducible exact HL7.out | with_reducible exact HM0.out | with_reducible exact HM1.out | with_reducible exact HM2.out | with_reducible exact HM4.out | with_reducible exact HM5.out | with_reducible exact HM6.out | with_reducible exact HM7.out)))
                (first | ((with_reducible refine at_w (w1.alloc (.cells #[] 52)).drew ?_); refine step_run (by rfl) (.tmp 95) (.tmp 99) 41 (by rfl) _ _ (by rfl) (by rfl) (S := fun u q => .slice A1 S.L.length C1 = u ∧ U2 = q) ⟨_, _, HX1.out, rfl, rfl⟩ ?_; rintro u q ⟨rfl, rfl⟩) | ((with_reducible refine at_w (U2.alloc (.cells #[] 48)) ?_); refine step_run (by rfl) (.tmp 102) (.tmp 103) 32 (by rfl) _ _ (by rfl) (by rfl) (S := fun u q => .slice a2 ps.length c2' = u ∧ W4 = q) ⟨_, _, HX2.out, rfl, rfl⟩ ?_; rintro u q ⟨rfl, rfl⟩) | ((with_reducible refine at_w (W4.alloc (.cells #[.int .i64 (k : Int), .slice a2 ps.length c2', .bool false] 52)) ?_); refine step_run (by rfl) (.tmp 100) (.tmp 106) 41 (by rfl) _ _ (by rfl) (by rfl) (S := fun u q => .slice a3 (S.L.length + 1) c3 = u ∧ W6 = q) ⟨_, _, HX3.out, rfl, rfl⟩ ?_; rintro u q ⟨rfl, rfl⟩) | ((with_reducible refine at_w ((w1.alloc (.cells #[] 52)).alloc (.cells #[] 48)).drew ?_); refine step_run (by rfl) (.tmp 95) (.tmp 99) 41 (by rfl) _ _ (by rfl) (by rfl) (S := fun u q => .slice B1 S.L.length D1 = u ∧ V2 = q) ⟨_, _, HY1.out, rfl, rfl⟩ ?_; rintro u q ⟨rfl, rfl⟩) | ((with_reducible refine at_w V2 ?_); refine step_run (by rfl) (.tmp 102) (.tmp 103) 32 (by rfl) _ _ (by rfl) (by rfl) (S := fun u q => .slice e2 ps.length d2 = u ∧ V4 = q) ⟨_, _, HY2.out, rfl, rfl⟩ ?_; rintro u q ⟨rfl, rfl⟩) | ((with_reducible refine at_w (V4.alloc (.cells #[.int .i64 (k : Int), .slice e2 ps.length d2, .bool false] 52)) ?_); refine step_run (by rfl) (.tmp 100) (.tmp 106) 41 (by rfl) _ _ (by rfl) (by rfl) (S := fun u q => .slice e3 (S.L.length + 1) d3 = u ∧ V6 = q) ⟨_, _, HY3.out, rfl, rfl⟩ ?_; rintro u q ⟨rfl, rfl⟩) | ((with_reducible refine at_w ((w1.alloc (.cells #[] 48)).alloc (.cells #[] 52)).drew ?_); refine step_run (by rfl) (.tmp 95) (.tmp 99) 41 (by rfl) _ _ (by rfl) (by rfl) (S := fun u q => .slice G1 S.L.length F1 = u ∧ Y2 = q) ⟨_, _, HZ1.out, rfl, rfl⟩ ?_; rintro u q ⟨rfl, rfl⟩) | ((with_reducible refine at_w Y2 ?_); refine step_run (by rfl) (.tmp 102) (.tmp 103) 32 (by rfl) _ _ (by rfl) (by rfl) (S := fun u q => .slice f2 ps.length g2 = u ∧ Y4 = q) ⟨_, _, HZ2.out, rfl, rfl⟩ ?_; rintro u q ⟨rfl, rfl⟩) | ((with_reducible refine at_w (Y4.alloc (.cells #[.int .i64 (k : Int), .slice f2 ps.length g2, .bool false] 52)) ?_); refine step_run (by rfl) (.tmp 100) (.tmp 106) 41 (by rfl) _ _ (by rfl) (by rfl) (S := fun u q => .slice f3 (S.L.length + 1) g3 = u ∧ Y6 = q) ⟨_, _, HZ3.out, rfl, rfl⟩ ?_; rintro u q ⟨rfl, rfl⟩))
              all_goals
                go_wp2_with fail
                go_meet
                first | exact ⟨_, _, _, rfl, HXF.out⟩ | exact ⟨_, _, _, rfl, HYF.out⟩ | exact ⟨_, _, _, rfl, HZF.out⟩
            case rest =>
              obtain ⟨mb, v3, vs3, rfl, HFin⟩ := hcut
              have HOk9 := Lib.hid (posted_ok (k := k) HF.out HM.out hl2 (by omega))
              have HSum : Hid (∀ W, Below wc.heap.size wc W → ∀ a c lo hi : Int, Calls Try.prog 31 #[.pointer (some ⟨mb, 0, none⟩), .int .i64 a, .int .i64 c, .int .i64 lo, .int .i64 hi] W (ExPost W (rng a c lo hi (posted S k ps).L))) := fun W hb a c lo hi =>
                gsum_any a c lo hi (HFin.out.rl.up hb) HOk9.out
              have HBc : Hid (Below w.heap.size w wc) := HFin.out.bel
              have href : refE S k ps = 0 := by
                unfold refE
                rw [if_neg (by rw [HWl.out]; simp; omega), if_neg (by omega), if_neg (by rw [hev]; simp), if_neg (by omega)]
              have HOv : Hid (overB S k ps = true → postN S k ps = 0 ∧ postE S k ps = 3 ∧ postS S k ps = S) := fun hO => by
                have hE : postE S k ps = 3 := by unfold postE; rw [if_neg (by rw [href]; simp), if_pos hO]
                obtain ⟨e1, e2⟩ := gpost_not hE (by omega)
                exact ⟨e1, hE, e2⟩
              have HNo : Hid (overB S k ps = false → postE S k ps = 0 ∧ postN S k ps = S.L.length ∧ postS S k ps = posted S k ps) := fun hO => postE_ok href hO
              clear href
              clear c2
              go_wp2_with fail
              go_loopw [10] (fun i wr => ∃ j : Nat, j ≤ ps.length ∧ i = .int .i64 j ∧ (∀ x ∈ ps.take j, OkX S k ps x) ∧ Below wc.heap.size wc wr) (fun i _ => ps.length - (intOf i).toNat)
              case atStart => exact ⟨0, Nat.zero_le _, rfl, by simp, Below.refl _ _⟩
              case round =>
                obtain ⟨j, hj, rfl, hok, hb⟩ := hrel
                have HOkx := Lib.hid hok
                have HBj := Lib.hid hb
                clear hok
                by_cases hlt : j < ps.length
                · obtain ⟨x, hx⟩ : ∃ x, ps[j]? = some x := ⟨_, List.getElem?_eq_getElem hlt⟩
                  have HX := Lib.hid hx
                  obtain ⟨b, o, rfl, z0, z1, z2⟩ := HP.out.at hx
                  have HPc : Hid (Pc w b o j x) := ⟨z0, z1⟩
                  have hj0 : (0 : Int) ≤ (j : Int) := by omega
                  have hj1 : (j : Int) < (ps.length : Int) := by omega
                  clear hb hx z0 z1 z2
                  go_wp2_with fail
                  go_loopw [11] (fun i wr => ∃ t : Nat, k ≤ t ∧ t ≤ S.n ∧ i = .int .i64 t ∧ (∀ q : Nat, k ≤ q → q < t → Am (rng x.a x.c 0 q (posted S k ps).L)) ∧ (k < t → Am (rng x.a x.c k k (posted S k ps).L)) ∧ Below wc.heap.size wc wr) (fun i _ => S.n - (intOf i).toNat)
                  case atStart => exact ⟨k, Nat.le_refl _, by omega, rfl, fun q h1 h2 => by omega, fun h => by omega, HBj.out⟩
                  case round =>
                    obtain ⟨t, ht0, ht1, rfl, hq0, hq1, hb⟩ := hrel
                    have HQ0 := Lib.hid hq0
                    have HQ1 := Lib.hid hq1
                    have HBt := Lib.hid hb
                    have HBw := Lib.hid (up2 HBc.out hb)
                    have c0 : wr.cell? ⟨r, 0, none⟩ = some (.int .i64 (S.n : Int)) := kcell HBw.out HRc.out.1
                    have hSn := HF.out.n1
                    clear hq0 hq1 hb
                    by_cases htn : t < S.n
                    · have ht9 : (t : Int) < (S.n : Int) := by omega
                      have HK0 : Hid (Pc wr.drew b o j x) := HPc.out.up HBw.out.drew
                      have HS1 := Lib.hid (HSum.out wr.drew HBt.out.drew x.a x.c 0 t)
                      have HSm1 := Lib.hid (rng_small HOk9.out x.a x.c 0 t)
                      have HSm2 := Lib.hid (rng_small HOk9.out x.a x.c k k)
                      go_wp2_with fail
                      go_region_held3 (fun w' => w'.cell? ⟨b, o + j * 3, none⟩ = some (.int .i64 x.a) ∧ w'.cell? ⟨b, o + j * 3 + 1, none⟩ = some (.int .i64 x.c))
                        (first | (change Pc _ b o j x; (first | with_reducible exact HK0.out | with_reducible exact kK1.out | with_reducible exact kK2.out)))
                        (first | ((with_reducible refine (HS1.out).mono ?_); rintro e' u1 ⟨s1, a1, n1, p1, rfl, hE1, hb1⟩; have kB1 := Lib.hid (up2 HBt.out.drew hb1); have kE1 := Lib.hid hE1; have kK1 : Hid (Pc u1 b o j x) := HK0.out.up hb1; clear hE1 hb1) | ((with_reducible refine (fit_any s1 (rng x.a x.c 0 t (posted S k ps).L) a1 n1 p1 _ kE1.out HSm1.out).mono ?_); rintro e' u2 ⟨rfl, hb2⟩; have kB2 := Lib.hid (up2 kB1.out hb2); have kK2 : Hid (Pc u2 b o j x) := kK1.out.up hb2; clear hb2))
                      all_goals
                        have HS2 := Lib.hid (HSum.out u2.drew kB2.out.drew x.a x.c k k)
                        have HL0 : Hid (Pc u2.drew b o j x) := kK2.out.up (Below.refl _ _).drew
                        clear c0
                        go_wp2_with fail
                        go_region_held3 (fun w' => w'.cell? ⟨b, o + j * 3, none⟩ = some (.int .i64 x.a) ∧ w'.cell? ⟨b, o + j * 3 + 1, none⟩ = some (.int .i64 x.c))
                          (first | (change Pc _ b o j x; (first | with_reducible exact HL0.out | with_reducible exact kL1.out | with_reducible exact kL2.out)))
                          (first | ((with_reducible refine (HS2.out).mono ?_); rintro e' u3 ⟨s2, a2, n2, p2, rfl, hE1, hb1⟩; have kB3 := Lib.hid (up2 kB2.out.drew hb1); have kE2 := Lib.hid hE1; have kL1 : Hid (Pc u3 b o j x) := HL0.out.up hb1; clear hE1 hb1) | ((with_reducible refine (fit_any s2 (rng x.a x.c k k (posted S k ps).L) a2 n2 p2 _ kE2.out HSm2.out).mono ?_); rintro e' u4 ⟨rfl, hb2⟩; have kB4 := Lib.hid (up2 kB3.out hb2); have kL2 : Hid (Pc u4 b o j x) := kL1.out.up hb2; clear hb2))
                        by_cases hA1 : Am (rng x.a x.c 0 t (posted S k ps).L)
                        · have e1 : (tellE (rng x.a x.c 0 t (posted S k ps).L) != 0) = false := by rw [(tell_am hA1).2]; rfl
                          by_cases hA2 : Am (rng x.a x.c k k (posted S k ps).L)
                          · have e2 : (tellE (rng x.a x.c k k (posted S k ps).L) != 0) = false := by rw [(tell_am hA2).2]; rfl
                            have HA : Hid (Am (rng x.a x.c 0 t (posted S k ps).L) ∧ Am (rng x.a x.c k k (posted S k ps).L)) := ⟨hA1, hA2⟩
                            clear hA1 hA2
                            go_wp2_with fail
                            go_roundw
                            case rel =>
                              refine ⟨t + 1, by omega, by omega, by go_num, fun q h1 h2 => ?_, fun _ => HA.out.2, kB4.out⟩
                              by_cases hqt : q = t
                              · subst hqt; exact HA.out.1
                              · exact HQ0.out q h1 (by omega)
                            case measure => simp [intOf]; omega
                          · have e2 : (tellE (rng x.a x.c k k (posted S k ps).L) != 0) = true := tell_bad hA2
                            have hO : overB S k ps = true := over_bad (List.mem_of_getElem? HX.out) fun z => hA2 z.1
                            have HO := Lib.hid hO
                            clear hA1 hA2 hO
                            go_wp2_with fail
                            go_ret2
                            have HR := HOv.out HO.out
                            rw [HR.1, HR.2.1, HR.2.2]
                            exact ⟨rfl, RlR.same HL.out (up2 HBc.out kB4.out)⟩
                        · have e1 : (tellE (rng x.a x.c 0 t (posted S k ps).L) != 0) = true := tell_bad hA1
                          have hO : overB S k ps = true := over_bad (List.mem_of_getElem? HX.out) fun z => hA1 (z.2 t ht0 htn)
                          have HO := Lib.hid hO
                          clear hA1 hO
                          go_wp2_with fail
                          go_ret2
                          have HR := HOv.out HO.out
                          rw [HR.1, HR.2.1, HR.2.2]
                          exact ⟨rfl, RlR.same HL.out (up2 HBc.out kB4.out)⟩
                    · have htn' : t = S.n := by omega
                      subst htn'
                      go_wp2_with fail
                      refine ⟨⟨j + 1, by omega, by go_num, fun z hz => ?_, HBt.out⟩, by simp [intOf]; omega⟩
                      rw [List.take_add_one, HX.out] at hz
                      rcases List.mem_append.1 hz with h | h
                      · exact HOkx.out z h
                      · simp at h
                        rw [h]
                        exact ⟨HQ1.out hk, HQ0.out⟩
                · have hje : j = ps.length := by omega
                  subst hje
                  rw [List.take_length] at HOkx
                  have hO : overB S k ps = false := over_ok HOkx.out
                  have HBw := Lib.hid (up2 HBc.out hb)
                  have hposts := HNo.out hO
                  have HPs := Lib.hid hposts
                  have hFp : Fine (posted S k ps) := fine_posted HF.out (fun x hx => (HM.out x hx).2.2) hposts.1
                  have HDone := Lib.hid (HFin.out.done HL.out HW.out HIn.out hb hFp)
                  obtain ⟨a3, c3, hrc3, hv3⟩ := (HFin.out.rl.up hb).rc
                  subst hv3
                  have m2 := hrc3.2.2
                  have hlen : (posted S k ps).L.length = S.L.length + 1 := by show (S.L ++ [_]).length = _; simp
                  rw [hlen] at m2 HDone
                  have r2 : wr.cell? ⟨r, 2, none⟩ = some (.slice ea S.L.length ec) := kcell HBw.out HRc.out.2.2
                  have f2 : wr.frozen? ⟨r, 2, none⟩ = false := (HW.out.head.up HBw.out).free 2
                  have e9 : IntKind.i64.wrap ((S.L.length : Int) + 1 - 1) = (S.L.length : Int) := by rw [show (S.L.length : Int) + 1 - 1 = (S.L.length : Int) by omega]; exact IntWalk.i64_in _ (by omega)
                  have e10 : IntKind.i64.wrap (S.L.length : Int) = (S.L.length : Int) := IntWalk.i64_in _ (by omega)
                  clear hb hO hposts hFp hrc3 hlen
                  go_wp2_with fail
                  go_ret2
                  rw [HPs.out.1, HPs.out.2.1, HPs.out.2.2]
                  exact ⟨rfl, HDone.out⟩
theorem gpost_any (q : Int) (a : Option Addr) (cap : Nat) (ps : List Po) (h : Rl w r S O) (hp : PsA w a ps) (hm : Ams ps) :
    Calls Try.prog 12 #[.pointer (some ⟨r, 0, none⟩), .int .i64 q, .slice a ps.length cap] w (GpR w r S O q ps) := by
  by_cases hbad : q < 0 ∨ (S.n : Int) ≤ q ∨ ps.length < 1 ∨ 32 < ps.length
  · exact gpost_arg q a cap ps h hbad
  · obtain ⟨k, rfl⟩ : ∃ k : Nat, q = k := ⟨q.toNat, by omega⟩
    exact gpost_in k a cap ps h hp hm (by omega) (by omega) (by omega)
end
end Go.Proofs.Ytginbgclifdfiaa
