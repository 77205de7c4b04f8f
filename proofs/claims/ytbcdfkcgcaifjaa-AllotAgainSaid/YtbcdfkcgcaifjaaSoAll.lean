/- Contracts: slices.stableCmpFunc and slices.SortStableFunc, of up to 64 places that stand in their order. -/
import Derived.Test.YtbcdfkcgcaifjaaSoStep
import Derived.Test.YtbcdfkcgcaifjaaPoMath
namespace Go.Proofs.Ytbcdfkcgcaifjaa
open Go.RowKit
variable {w W : World} {b n rb g : Nat} {K f : Nat → Int}

theorem Piece.none {h : Nat → Int} {lo hi : Nat} (e : hi ≤ lo) : Piece n K h lo hi := ⟨fun s t s1 s2 s3 => by omega, fun t t1 t2 => by omega⟩
theorem Piece.keep {h h' : Nat → Int} {lo hi a c : Nat} (p : Piece n K h lo hi) (m : Mix n a c h h') (e : hi ≤ a ∨ c ≤ lo) : Piece n K h' lo hi :=
  ⟨p.1.same fun t t1 t2 => m.out t (by omega), fun t t1 t2 => by rw [m.out t (by omega)]; exact p.2 t t1 t2⟩
theorem Piece.cast {h : Nat → Int} {lo hi lo' hi' : Nat} (p : Piece n K h lo hi) (e1 : lo = lo') (e2 : hi = hi') : Piece n K h lo' hi' := by subst e1 e2; exact p
theorem Piece.order {h : Nat → Int} {a m c : Nat} (p : Piece n K h a m) (q : Piece n K h m c) : ∀ s t, a ≤ s → s < m → m ≤ t → t < c → h s < h t := fun s t s1 s2 t1 t2 => by
  have := (p.2 s s1 s2).2; have := (q.2 t t1 t2).1; omega
theorem Piece.join {h h' : Nat → Int} {a m c : Nat} (p : Piece n K h a m) (q : Piece n K h m c) (x : Mix n a c h h') (u : Up (key n K) h' a c) (e1 : a ≤ m) (e2 : m ≤ c) : Piece n K h' a c := by
  refine ⟨u, fun t t1 t2 => ?_⟩
  obtain ⟨s, s1, s2, s3⟩ := x.old t t1 t2
  rw [s3]
  by_cases e : s < m
  · have := p.2 s s1 e; omega
  · have := q.2 s (by omega) s2; omega
theorem Piece.laid {h h' : Nat → Int} {a c : Nat} (e : ∀ t, a ≤ t → t < c → h t = t) (x : Mix n a c h h') (u : Up (key n K) h' a c) : Piece n K h' a c := by
  refine ⟨u, fun t t1 t2 => ?_⟩
  obtain ⟨s, s1, s2, s3⟩ := x.old t t1 t2
  rw [s3, e s s1 s2]; omega
theorem SameSum.mix {h h' : Nat → Int} {a c : Nat} (s : SameSum n h) (m : Mix n a c h h') : SameSum n h' := fun p => (m.sum p).trans (s p)

set_option maxRecDepth 1000000 in
set_option maxHeartbeats 4000000 in
theorem stable_any (HS : SW w b n rb g K (fun t => (t : Int)) W) (cap : Nat) (hn : n ≤ 64) :
    Calls Try.prog 63 #[.slice (some ⟨b, 0, none⟩) n cap, .int .i64 n, .func (.func 56) #[] #[.pointer (some ⟨rb, 0, none⟩)]] W fun e w' => e = .returned (.tuple #[]) ∧ ∃ h, SW w b n rb g K h w' ∧ Piece n K h 0 n ∧ SameSum n h := by
  have H0 := Lib.hid HS
  clear HS
  go_enter Try.func63, Try.ntmps63
  go_wp2_with fail
  go_loopw [7, 8] (fun va vb wr => ∃ (a c i : Nat) (h : Nat → Int), va = .int .i64 a ∧ vb = .int .i64 c ∧ Hid (a = 20 * i ∧ c = a + 20) ∧ a ≤ n ∧ SW w b n rb g K h wr ∧ Hid (∀ j, j < i → Piece n K h (20 * j) (20 * j + 20)) ∧ Hid (∀ t, a ≤ t → h t = t) ∧ Hid (SameSum n h)) (fun va _ _ => n + 1 - (intOf va).toNat)
  case atStart => exact ⟨0, 20, 0, _, rfl, rfl, ⟨rfl, rfl⟩, Nat.zero_le _, H0.out, (fun j hj => by omega), (fun t _ => rfl), fun p => rfl⟩
  case round =>
    obtain ⟨a, c, i, h, rfl, rfl, HA, han, hT, HP, HI, HM⟩ := hrel
    have HT := Lib.hid hT
    clear hT
    by_cases hlt : c ≤ n
    · obtain ⟨c2, hc2⟩ : ∃ c2, c2 = c + 20 := ⟨_, rfl⟩
      have i1 : IntKind.i64.wrap ((c : Int) + 20) = (c2 : Int) := by rw [IntKind.wrap_i64]; omega
      have HC := Lib.hid hc2
      have hltz : (c : Int) ≤ (n : Int) := by omega
      clear hc2
      go_wp2_with fail
      refine (ins_any HT.out cap a c (by have := HA.out; omega) hlt (fun s t s1 s2 s3 => by rw [HI.out s s1, HI.out t (by omega)]; omega)).mono ?_
      rintro e w1 ⟨rfl, h', hT', m', u'⟩
      have HT' := Lib.hid hT'
      have M' := Lib.hid m'
      have U' := Lib.hid u'
      clear hT' m' u'
      go_wp2_with fail
      go_roundw
      case rel =>
        have := HA.out; have := HC.out
        refine ⟨c, c2, i + 1, h', rfl, rfl, ⟨by omega, by omega⟩, hlt, HT'.out, (fun j hj => ?_), (fun t ht => ?_), HM.out.mix M'.out⟩
        · by_cases e : j = i
          · subst e
            exact (Piece.laid (fun t t1 t2 => HI.out t t1) M'.out U'.out).cast (by omega) (by omega)
          · exact (HP.out j (by omega)).keep M'.out (by omega)
        · rw [M'.out.out t (by omega)]; exact HI.out t (by omega)
      case measure => have := HA.out; simp [intOf]; omega
    · have hltz : ¬ (c : Int) ≤ (n : Int) := by omega
      go_wp2_with fail
      refine (ins_any HT.out cap a n han (Nat.le_refl _) (fun s t s1 s2 s3 => by rw [HI.out s s1, HI.out t (by omega)]; omega)).mono ?_
      rintro e w1 ⟨rfl, h', hT', m', u'⟩
      have HQ : Hid (∀ j, Piece n K h' (20 * j) (min (20 * j + 20) n)) := by
        intro j
        have := HA.out
        by_cases e1 : j < i
        · exact ((HP.out j e1).keep m' (by omega)).cast rfl (by omega)
        · by_cases e2 : j = i
          · subst e2
            exact (Piece.laid (fun t t1 t2 => HI.out t t1) m' u').cast (by omega) (by omega)
          · exact Piece.none (by omega)
      have HT' := Lib.hid hT'
      have HM' := Lib.hid (HM.out.mix m')
      clear hT' m' u' HP HI HM HT HA hlt hltz H0 han
      go_wp2_with fail
      go_loopw [6] (fun vz wr => ∃ h : Nat → Int, SW w b n rb g K h wr ∧ Hid (SameSum n h) ∧ ((vz = .int .i64 20 ∧ Hid (∀ j, Piece n K h (20 * j) (min (20 * j + 20) n))) ∨ (vz = .int .i64 40 ∧ Hid (∀ j, Piece n K h (40 * j) (min (40 * j + 40) n))) ∨ (vz = .int .i64 80 ∧ Hid (∀ j, Piece n K h (80 * j) (min (80 * j + 80) n))))) (fun vz _ => 100 - (intOf vz).toNat)
      case atStart => exact ⟨h', HT'.out, HM'.out, .inl ⟨rfl, HQ.out⟩⟩
      case round =>
        clear HT' HM' HQ
        obtain ⟨h, hT, HM, hz⟩ := hrel
        have HT := Lib.hid hT
        clear hT
        rcases hz with ⟨rfl, HP⟩ | ⟨rfl, HP⟩ | ⟨rfl, HP⟩
        · by_cases hz : 20 < n
          · have hzz : (20 : Int) < (n : Int) := by omega
            obtain ⟨wo, hwo⟩ : ∃ wo, wo = wr := ⟨_, rfl⟩
            rw [← hwo] at HT ⊢
            clear hwo
            go_wp2_with fail
            go_loopw [7, 8] (fun va vb wr => ∃ (a c i : Nat) (h : Nat → Int), va = .int .i64 a ∧ vb = .int .i64 c ∧ Hid (a = 40 * i ∧ c = a + 40) ∧ a ≤ n ∧ SW w b n rb g K h wr ∧ Hid (∀ j, j < i → Piece n K h (40 * j) (40 * j + 40)) ∧ Hid (∀ j, 2 * i ≤ j → Piece n K h (20 * j) (min (20 * j + 20) n)) ∧ Hid (SameSum n h)) (fun va _ _ => n + 1 - (intOf va).toNat)
            case atStart => exact ⟨0, 40, 0, h, rfl, rfl, ⟨rfl, rfl⟩, Nat.zero_le _, HT.out, (fun j hj => by omega), (fun j _ => HP.out j), HM.out⟩
            case round =>
              clear HT HP HM
              obtain ⟨a, c, i, h, rfl, rfl, HA, han, hT, HP, HI, HM⟩ := hrel
              have HT := Lib.hid hT
              clear hT
              obtain ⟨m, hm⟩ : ∃ m, m = a + 20 := ⟨_, rfl⟩
              have i2 : IntKind.i64.wrap ((a : Int) + 20) = (m : Int) := by rw [IntKind.wrap_i64]; omega
              have HN := Lib.hid hm
              clear hm
              by_cases hlt : c ≤ n
              · obtain ⟨c2, hc2⟩ : ∃ c2, c2 = c + 40 := ⟨_, rfl⟩
                have i1 : IntKind.i64.wrap ((c : Int) + 40) = (c2 : Int) := by rw [IntKind.wrap_i64]; omega
                have HC := Lib.hid hc2
                have hltz : (c : Int) ≤ (n : Int) := by omega
                have P1 : Hid (Piece n K h a m) := (HI.out (2 * i) (Nat.le_refl _)).cast (by have := HA.out; omega) (by have := HA.out; have := HN.out; omega)
                have P2 : Hid (Piece n K h m c) := (HI.out (2 * i + 1) (by omega)).cast (by have := HA.out; have := HN.out; omega) (by have := HA.out; have := HN.out; omega)
                clear hc2
                go_wp2_with fail
                refine (sym_ok w b n rb g K cap 64 a m c h _ (by omega) (by have := HN.out; omega) (by have := HA.out; have := HN.out; omega) hlt HT.out P1.out.1 P2.out.1 (P1.out.order P2.out)).mono ?_
                rintro e w1 ⟨rfl, h', hT', m', u'⟩
                have HT' := Lib.hid hT'
                have M' := Lib.hid m'
                have U' := Lib.hid u'
                clear hT' m' u'
                go_wp2_with fail
                go_roundw
                case rel =>
                  have := HA.out; have := HC.out; have := HN.out
                  refine ⟨c, c2, i + 1, h', rfl, rfl, ⟨by omega, by omega⟩, hlt, HT'.out, (fun j hj => ?_), (fun j hj => ?_), HM.out.mix M'.out⟩
                  · by_cases e : j = i
                    · subst e
                      exact (P1.out.join P2.out M'.out U'.out (by omega) (by omega)).cast (by omega) (by omega)
                    · exact (HP.out j (by omega)).keep M'.out (by omega)
                  · exact (HI.out j (by omega)).keep M'.out (by omega)
                case measure => have := HA.out; simp [intOf]; omega
              · have hltz : ¬ (c : Int) ≤ (n : Int) := by omega
                by_cases hm : m < n
                · have hmz : (m : Int) < (n : Int) := by omega
                  have P1 : Hid (Piece n K h a m) := (HI.out (2 * i) (Nat.le_refl _)).cast (by have := HA.out; omega) (by have := HA.out; have := HN.out; omega)
                  have P2 : Hid (Piece n K h m n) := (HI.out (2 * i + 1) (by omega)).cast (by have := HA.out; have := HN.out; omega) (by have := HA.out; have := HN.out; omega)
                  go_wp2_with fail
                  refine (sym_ok w b n rb g K cap 64 a m n h _ (by omega) (by have := HN.out; omega) hm (Nat.le_refl _) HT.out P1.out.1 P2.out.1 (P1.out.order P2.out)).mono ?_
                  rintro e w1 ⟨rfl, h', hT', m', u'⟩
                  have HT' := Lib.hid hT'
                  have M' := Lib.hid m'
                  have U' := Lib.hid u'
                  clear hT' m' u'
                  go_wp2_with fail
                  go_roundw
                  case rel =>
                    have := HA.out; have := HN.out
                    refine ⟨h', HT'.out, HM.out.mix M'.out, .inr (.inl ⟨by go_num, fun j => ?_⟩)⟩
                    by_cases e1 : j < i
                    · exact ((HP.out j e1).keep M'.out (by omega)).cast rfl (by omega)
                    · by_cases e2 : j = i
                      · subst e2
                        exact (P1.out.join P2.out M'.out U'.out (by omega) (by omega)).cast (by omega) (by omega)
                      · exact Piece.none (by omega)
                  case measure => simp [intOf]
                · have hmz : ¬ (m : Int) < (n : Int) := by omega
                  go_wp2_with fail
                  go_roundw
                  case rel =>
                    have := HA.out; have := HN.out
                    refine ⟨h, HT.out, HM.out, .inr (.inl ⟨by go_num, fun j => ?_⟩)⟩
                    by_cases e1 : j < i
                    · exact (HP.out j e1).cast rfl (by omega)
                    · by_cases e2 : j = i
                      · subst e2
                        exact (HI.out (2 * j) (Nat.le_refl _)).cast (by omega) (by omega)
                      · exact Piece.none (by omega)
                  case measure => simp [intOf]
          · have hzz : ¬ (20 : Int) < (n : Int) := by omega
            go_wp2_with fail
            go_end0
            exact ⟨rfl, h, HT.out, (HP.out 0).cast rfl (by omega), HM.out⟩
        · by_cases hz : 40 < n
          · have hzz : (40 : Int) < (n : Int) := by omega
            obtain ⟨wo, hwo⟩ : ∃ wo, wo = wr := ⟨_, rfl⟩
            rw [← hwo] at HT ⊢
            clear hwo
            have P1 : Hid (Piece n K h 0 40) := (HP.out 0).cast rfl (by omega)
            have P2 : Hid (Piece n K h 40 n) := (HP.out 1).cast rfl (by omega)
            go_wp2_with fail
            go_loopw [7, 8] (fun va vb wr => va = .int .i64 0 ∧ vb = .int .i64 80 ∧ SW w b n rb g K h wr) (fun _ _ _ => 0)
            case atStart => exact ⟨rfl, rfl, HT.out⟩
            case round =>
              clear HT
              obtain ⟨rfl, rfl, hT⟩ := hrel
              have HT := Lib.hid hT
              clear hT
              have h8 : ¬ (80 : Int) ≤ (n : Int) := by omega
              go_wp2_with fail
              refine (sym_ok w b n rb g K cap 64 0 40 n h _ (by omega) (by omega) hz (Nat.le_refl _) HT.out P1.out.1 P2.out.1 (P1.out.order P2.out)).mono ?_
              rintro e w1 ⟨rfl, h', hT', m', u'⟩
              have HT' := Lib.hid hT'
              have M' := Lib.hid m'
              have U' := Lib.hid u'
              clear hT' m' u'
              go_wp2_with fail
              go_roundw
              case rel =>
                refine ⟨h', HT'.out, HM.out.mix M'.out, .inr (.inr ⟨by go_num, fun j => ?_⟩)⟩
                by_cases e1 : j = 0
                · subst e1
                  exact (P1.out.join P2.out M'.out U'.out (by omega) (by omega)).cast (by omega) (by omega)
                · exact Piece.none (by omega)
              case measure => simp [intOf]
          · have hzz : ¬ (40 : Int) < (n : Int) := by omega
            go_wp2_with fail
            go_end0
            exact ⟨rfl, h, HT.out, (HP.out 0).cast rfl (by omega), HM.out⟩
        · have hzz : ¬ (80 : Int) < (n : Int) := by omega
          go_wp2_with fail
          go_end0
          exact ⟨rfl, h, HT.out, (HP.out 0).cast rfl (by omega), HM.out⟩

set_option maxHeartbeats 400000 in
theorem sort_any (HS : SW w b n rb g K (fun t => (t : Int)) W) (cap : Nat) (hn : n ≤ 64) :
    Calls Try.prog 55 #[.slice (some ⟨b, 0, none⟩) n cap, .func (.func 56) #[] #[.pointer (some ⟨rb, 0, none⟩)]] W fun e w' => e = .returned (.tuple #[]) ∧ ∃ h, SW w b n rb g K h w' ∧ Piece n K h 0 n ∧ SameSum n h := by
  have H0 := Lib.hid HS
  clear HS
  go_enter Try.func55, Try.ntmps55
  go_wp2_with fail
  refine (stable_any H0.out cap hn).mono ?_
  rintro e w1 ⟨rfl, h⟩
  have H := Lib.hid h
  clear h
  go_wp2_with fail
  go_end0
  exact ⟨rfl, H.out⟩
end Go.Proofs.Ytbcdfkcgcaifjaa
