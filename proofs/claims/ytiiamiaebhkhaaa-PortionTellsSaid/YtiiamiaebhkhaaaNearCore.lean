/- The law PortionNear, over a list of amounts. -/
import Derived.Test.YtiiamiaebhkhaaaPoFacts
import Derived.Test.YtiiamiaebhkhaaaZb
namespace Go.Proofs.Ytiiamiaebhkhaaa
open Go.RowKit

theorem neg_parts {y s : Int} (hs : 0 < s) : (y % s = 0 ∧ (-y) % s = 0 ∧ (-y) / s = -(y / s)) ∨ (y % s ≠ 0 ∧ (-y) % s ≠ 0 ∧ (-y) / s = -(y / s) - 1) := by
  have a1 := Int.mul_ediv_add_emod y s
  have a2 := Int.mul_ediv_add_emod (-y) s
  have b1 := Int.emod_nonneg y (b := s) (by omega)
  have b2 := Int.emod_nonneg (-y) (b := s) (by omega)
  have c1 := Int.emod_lt_of_pos y hs
  have c2 := Int.emod_lt_of_pos (-y) hs
  generalize y / s = q at *
  generalize (-y) / s = p at *
  generalize y % s = r at *
  generalize (-y) % s = t at *
  have e : s * (p + q) = -(r + t) := by rw [Int.mul_add]; omega
  by_cases z : r + t = 0
  · left
    have : s * (p + q) = 0 := by omega
    rcases Int.mul_eq_zero.1 this with h | h
    · omega
    · refine ⟨by omega, by omega, by omega⟩
  · right
    have h1 : p + q < 0 := by
      apply Int.lt_of_not_ge; intro h
      have := Int.mul_nonneg (Int.le_of_lt hs) h; omega
    have h2 : -2 < p + q := by
      apply Int.lt_of_not_ge; intro h
      have := Int.mul_le_mul_of_nonneg_left h (Int.le_of_lt hs); omega
    have h3 : p + q = -1 := by omega
    rw [h3] at e
    refine ⟨by omega, by omega, by omega⟩

variable {total : Int} {f : Nat → Int} {n : Nat}
theorem near_facts (h : outE total f n = 0) {k : Nat} (hk : k < n) :
    outV total f n k = total * f k / sumN f n ∨ (total * f k % sumN f n ≠ 0 ∧ outV total f n k - 1 = total * f k / sumN f n) := by
  obtain ⟨_, W, _, _⟩ := outE_ok h
  unfold outV
  by_cases ht : 0 ≤ total
  · rw [if_pos ht]
    by_cases r : restV total f (sumN f n) k = 0
    · left; rw [W.no_more r]; rfl
    · unfold shareV
      split
      · right; exact ⟨r, by unfold partV; omega⟩
      · left; unfold partV; omega
  · rw [if_neg ht]
    have q := neg_parts (y := -total * f k) W.s0
    have e : -(-total * f k) = total * f k := by rw [Int.neg_mul]; omega
    rw [e] at q
    have W' := W.share0 (size := -total) (by omega) hk
    by_cases r : restV (-total) f (sumN f n) k = 0
    · rw [W.no_more r]
      rcases q with ⟨q1, q2, q3⟩ | ⟨q1, q2, q3⟩
      · left; unfold partV; omega
      · exact absurd r q1
    · rcases q with ⟨q1, q2, q3⟩ | ⟨q1, q2, q3⟩
      · exact absurd q1 r
      · unfold shareV
        split
        · left; unfold partV; omega
        · right; refine ⟨q2, ?_⟩; unfold partV; omega
theorem out_mono (h : outE total f n = 0) (ht : 0 ≤ total) {i k : Nat} (hi : i < n) (hlt : f k < f i) : outV total f n k ≤ outV total f n i := by
  obtain ⟨_, W, _, _⟩ := outE_ok h
  unfold outV; rw [if_pos ht, if_pos ht]; exact W.mono ht hi hlt

theorem law_long5 (total : Int) (a : Option Addr) (n cap : Nat) (w : World) (h : 70 < n) :
    Calls Try.prog 5 #[.int .i64 total, .slice a n cap] w fun e w' => e = .returned (.bool true) ∧ Below w.heap.size w w' := by
  have hz : (70 : Int) < (n : Int) := by omega
  go_enter Try.func5, Try.ntmps5
  go_wp2_with fail
  refine (awake2 _).mono ?_
  rintro e w1 ⟨rfl, hb⟩
  go_wp2_with fail
  go_ret
  exact ⟨rfl, hb⟩

/-- the sum of a list of amounts, by cents.Sum -/
theorem sum_arg (f : Nat → Int) (a : Option Addr) (n cap : Nat) (w : World) (hf : Amounts f) (hn : n ≤ 1000) (hA : Arg w a n f) :
    Calls Try.prog 13 #[.slice a n cap] w fun e w' => e = .returned (.tuple #[.int .i64 (tellV (sumN f n)), .int .i64 (tellE (sumN f n))]) ∧ Below w.heap.size w w' := by
  by_cases h0 : n = 0
  · subst h0
    exact sum_zero a cap w
  · obtain ⟨b, off, rfl, hr⟩ := hA (by omega)
    rw [← sumTo_eq]
    exact sum_some f hf b off n cap w (by omega) hr

/-- the law's loops: nothing that it reads is turned -/
structure NearAt (w : World) (a : Option Addr) (p n : Nat) (f v : Nat → Int) (W : World) : Prop where
  bel : Below w.heap.size w W
  ints : Ints W p n v
  arg : Arg W a n f
theorem NearAt.up {w W W' : World} {a : Option Addr} {p n : Nat} {f v : Nat → Int} (h : NearAt w a p n f v W) (hb : Below W.heap.size W W') : NearAt w a p n f v W' :=
  ⟨up2 h.bel hb, ints_up h.ints hb, fun q => by obtain ⟨b, off, e, r⟩ := h.arg q; exact ⟨b, off, e, r.below hb⟩⟩
theorem drew_below (W : World) (q : Nat) : Below W.heap.size W (W.drewN q) := ⟨rfl, rfl, rfl, Nat.le_refl _, fun _ _ => rfl⟩

set_option maxRecDepth 100000 in
set_option maxHeartbeats 4000000 in
theorem near_any (total : Int) (f : Nat → Int) (a : Option Addr) (n cap : Nat) (w : World) (hf : Amounts f) (ht : Am total) (hn : n ≤ 70) (hA : Arg w a n f) :
    Calls Try.prog 5 #[.int .i64 total, .slice a n cap] w fun e w' => e = .returned (.bool true) ∧ Below w.heap.size w w' := by
  obtain ⟨t1, t2⟩ := ht
  have HA := Lib.hid hA
  have hz : ¬ (70 : Int) < (n : Int) := by omega
  have HF := Lib.hid hf
  clear hA hf
  go_enter Try.func5, Try.ntmps5
  go_wp2_with fail
  refine (awake2 _).mono ?_
  rintro e w1 ⟨rfl, hb⟩
  have HB1 := Lib.hid hb
  have HA1 : Hid (Arg w1 a n f) := fun q => by obtain ⟨b, off, e, r⟩ := HA.out q; exact ⟨b, off, e, r.below HB1.out⟩
  clear hb
  go_wp2_with fail
  refine (out_any total f a n cap w1 HF.out t1 t2 HA1.out).mono ?_
  rintro e w2 ⟨⟨hb, q⟩, hs⟩
  have HB2 := Lib.hid (up2 HB1.out hb)
  have HA2 : Hid (Arg w2 a n f) := fun q => by obtain ⟨b, off, e, r⟩ := HA1.out q; exact ⟨b, off, e, r.below hb⟩
  have HSum := Lib.hid (sum_arg f a n cap w2 HF.out (by omega) HA2.out)
  clear HB1 HA1 HA hb
  rcases q with ⟨he, rfl⟩ | ⟨he, p, rfl, hp, hi⟩
  · obtain ⟨er, her⟩ : ∃ er, er = outE total f n := ⟨_, rfl⟩
    rw [← her] at he ⊢
    have hez : (er != 0) = true := by simp [he]
    clear her he hs
    go_wp2_with fail
    refine HSum.out.mono ?_
    rintro e w3 ⟨rfl, hb⟩
    have HB3 := Lib.hid (up2 HB2.out hb)
    clear hb HSum HB2
    go_wp2_with fail
    go_ret
    exact ⟨rfl, HB3.out⟩
  · obtain ⟨hn64, hW, hs1, _⟩ := outE_ok he
    have HFs := Lib.hid (fun k (hk : k < n) => near_facts he hk)
    have HMo := Lib.hid (fun (q : 0 ≤ total) (i k : Nat) (hi : i < n) (hlt : f k < f i) => out_mono he q hi hlt)
    have HAm := Lib.hid (fun k (hk : k < n) => (out_facts t1 t2 he hk).2.2.2)
    rw [(tell_in (v := sumN f n) (by have := hW.s0; omega) hs1).1, (tell_in (v := sumN f n) (by have := hW.s0; omega) hs1).2] at HSum
    obtain ⟨s, hse⟩ : ∃ s, s = sumN f n := ⟨_, rfl⟩
    rw [← hse] at HSum HFs hW hs1
    have s0 := hW.s0
    have HFk : Hid (∀ k, k < n → 0 ≤ f k ∧ f k ≤ s) := fun k hk => ⟨hW.pos k hk, by have := sumN_term hW.pos hk; rw [hW.sum] at this; exact this⟩
    obtain ⟨v, hv⟩ : ∃ v, v = outV total f n := ⟨_, rfl⟩
    rw [← hv] at hi HFs HMo HAm
    have HI := Lib.hid hi
    clear hi hs he hse hv hW hp
    go_wp2_with fail
    refine HSum.out.mono ?_
    rintro e w3 ⟨rfl, hb⟩
    have HN : Hid (NearAt w a p n f v w3) := ⟨up2 HB2.out hb, ints_up HI.out hb, fun q => by obtain ⟨b, off, e, r⟩ := HA2.out q; exact ⟨b, off, e, r.below hb⟩⟩
    clear hb HSum HB2 HA2 HI
    go_wp2_with fail
    go_loopw [50] (fun vi wr => ∃ k : Nat, k ≤ n ∧ vi = .int .i64 k ∧ NearAt w a p n f v wr) (fun vi _ => n - (intOf vi).toNat)
    case atStart => exact ⟨0, Nat.zero_le _, rfl, HN.out⟩
    case round =>
      clear HN
      obtain ⟨k, hk, rfl, hN⟩ := hrel
      have HN := Lib.hid hN
      clear hN
      by_cases hlt : k < n
      · obtain ⟨b, off, ha, hr⟩ := HN.out.arg (by omega)
        subst ha
        have c2 := hr k hlt
        clear hr
        have HPk := Lib.hid (am_within (part_within (total := total) (whole := s) s0 (HFk.out k hlt).1 (HFk.out k hlt).2) t1 t2)
        go_wp2_with fail
        refine (part_any total (f k) s _ t1 t2 (HFk.out k hlt).1 (by have := (HFk.out k hlt).2; omega) s0 hs1).mono ?_
        rintro e w4 ⟨rfl, hb⟩
        rw [(tell_in HPk.out.1 HPk.out.2).1, (tell_in HPk.out.1 HPk.out.2).2]
        have HN4 := Lib.hid (HN.out.up hb)
        clear HN c2 hb
        go_wp2_with fail
        refine (rest_any total (f k) s _ t1 t2 (HFk.out k hlt).1 (by have := (HFk.out k hlt).2; omega) s0 hs1).mono ?_
        rintro e w5 ⟨rfl, hb⟩
        have HN5 := Lib.hid (HN4.out.up hb)
        clear HN4 hb
        have c1 := (HN5.out.ints k hlt).1
        have fk := HFs.out k hlt
        have HAk := Lib.hid (HAm.out k hlt)
        obtain ⟨low, hlow⟩ : ∃ low, low = total * f k / s := ⟨_, rfl⟩
        obtain ⟨rest, hrest⟩ : ∃ rest, rest = total * f k % s := ⟨_, rfl⟩
        rw [← hlow, ← hrest] at fk ⊢
        rw [← hlow] at HPk
        clear hlow hrest
        obtain ⟨wo, hwo⟩ : ∃ wo, wo = w5 := ⟨_, rfl⟩
        rw [← hwo] at HN5 c1 ⊢
        clear hwo
        go_upto_region 14 with fail
        go_cut [95] (fun s95 wx => s95 = .bool false ∧ wx = wo)
        case first =>
          by_cases ex : v k = low
          · have exz : (v k != low) = false := by simp [ex]
            clear fk
            go_wp2_with fail
            go_meet
            exact ⟨rfl, rfl⟩
          · have exz : (v k != low) = true := by simp [ex]
            obtain ⟨g1, g2⟩ : rest ≠ 0 ∧ v k - 1 = low := by rcases fk with q | q; exact absurd q ex; exact q
            have g1z : (rest == 0) = false := by simp [g1]
            have g3 : IntKind.i64.wrap (v k - 1) = v k - 1 := by have := HPk.out; unfold Am at this; rw [IntKind.wrap_i64]; omega
            have g2z : (v k - 1 != low) = false := by simp [g2]
            clear fk g1 g2
            go_wp2_with fail
            go_meet
            exact ⟨rfl, rfl⟩
        case rest =>
          obtain ⟨rfl, rfl⟩ := hcut
          clear fk c1
          go_wp2_with fail
          go_loopw [98] (fun vj wr => ∃ j : Nat, j ≤ n ∧ vj = .int .i64 j ∧ NearAt w (some ⟨b, off, none⟩) p n f v wr) (fun vj _ => n - (intOf vj).toNat)
          case atStart => exact ⟨0, Nat.zero_le _, rfl, HN5.out⟩
          case round =>
            clear HN5
            obtain ⟨j, hj, rfl, hN⟩ := hrel
            have HN := Lib.hid hN
            clear hN
            by_cases hjn : j < n
            · obtain ⟨b', off', ha, hr⟩ := HN.out.arg (by omega)
              injection ha with ha
              injection ha with ha1 ha2
              subst ha1 ha2
              have c2 := hr j hjn
              have c3 := (HN.out.ints k hlt).1
              have c4 := (HN.out.ints j hjn).1
              clear hr
              by_cases e0 : 0 ≤ total
              · by_cases e1 : f j < f k
                · have e2 : ¬ v k < v j := by have := HMo.out e0 k j hlt e1; omega
                  go_wp2_with fail
                  go_quiet (fail)
                  have HN2 := Lib.hid (HN.out.up (drew_below wr nq))
                  obtain ⟨Wq, hWq⟩ : ∃ Wq, Wq = wr.drewN nq := ⟨_, rfl⟩
                  rw [← hWq] at HN2 ⊢
                  clear hWq HN c2 c3 c4
                  go_wp2_with fail
                  go_roundw
                  case rel => exact ⟨j + 1, by omega, by go_num, HN2.out⟩
                  case measure => simp [intOf]; omega
                · have e2 : decide (f j < f k) = false := by simp [e1]
                  have e3 : decide (f k > f j) = false := by simp; omega
                  go_wp2_with fail
                  go_quiet (fail)
                  have HN2 := Lib.hid (HN.out.up (drew_below wr nq))
                  obtain ⟨Wq, hWq⟩ : ∃ Wq, Wq = wr.drewN nq := ⟨_, rfl⟩
                  rw [← hWq] at HN2 ⊢
                  clear hWq HN c2 c3 c4
                  go_wp2_with fail
                  go_roundw
                  case rel => exact ⟨j + 1, by omega, by go_num, HN2.out⟩
                  case measure => simp [intOf]; omega
              · have e2 : decide (0 ≤ total) = false := by simp [e0]
                have e3 : decide (total ≥ 0) = false := by simp; omega
                go_wp2_with fail
                go_quiet (fail)
                have HN2 := Lib.hid (HN.out.up (drew_below wr nq))
                obtain ⟨Wq, hWq⟩ : ∃ Wq, Wq = wr.drewN nq := ⟨_, rfl⟩
                rw [← hWq] at HN2 ⊢
                clear hWq HN c2 c3 c4
                go_wp2_with fail
                go_roundw
                case rel => exact ⟨j + 1, by omega, by go_num, HN2.out⟩
                case measure => simp [intOf]; omega
            · have hje : j = n := by omega
              subst hje
              go_wp2_with fail
              go_roundw
              case rel => exact ⟨k + 1, by omega, by go_num, HN.out⟩
              case measure => simp [intOf]; omega
      · have hke : k = n := by omega
        subst hke
        go_wp2_with fail
        go_ret
        exact ⟨rfl, HN.out.bel⟩
end Go.Proofs.Ytiiamiaebhkhaaa
