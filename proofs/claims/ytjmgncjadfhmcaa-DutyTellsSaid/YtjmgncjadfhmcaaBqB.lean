/- awake. -/
import Derived.Test.YtjmgncjadfhmcaaDuK
import Derived.Test.YtjmgncjadfhmcaaBqA
namespace Go.Proofs.Ytjmgncjadfhmcaa
open Go.RowKit

end Go.Proofs.Ytjmgncjadfhmcaa

namespace Go.Proofs.Ytjmgncjadfhmcaa
open Go.RowKit

def setAll (S : Bs) (l : List Pc) : Bs := l.foldl (fun S x => setS S x.it x.dy x.n) S
theorem setAll_snoc (S : Bs) (l : List Pc) (x : Pc) : setAll S (l ++ [x]) = setS (setAll S l) x.it x.dy x.n := by
  unfold setAll; rw [List.foldl_append]; rfl
theorem setAll_take (S : Bs) (l : List Pc) {k : Nat} {x : Pc} (hx : l[k]? = some x) : setAll S (l.take (k + 1)) = setS (setAll S (l.take k)) x.it x.dy x.n := by
  rw [List.take_add_one, hx]; exact setAll_snoc S _ x
theorem sets_keep {S : Bs} {i d n item day : Int} (h : setE S i d n ≠ 0 ∨ item ≠ i ∨ day < d) : priV (setS S i d n) item day = priV S item day := by
  unfold priV
  rw [priE_set]
  by_cases q : setE S i d n = 0
  · have e : setS S i d n = setted S i d n := by unfold setS; rw [if_pos q]
    have hs : bstep item day (best S item day) ⟨i, d, n⟩ = best S item day := by
      unfold bstep
      refine if_neg ?_
      rintro ⟨h1, h2, _⟩
      have h1 : i = item := h1
      have h2 : d ≤ day := h2
      rcases h with h | h | h
      · exact h q
      · exact h h1.symm
      · omega
    rw [e, best_setted, hs]
  · have e : setS S i d n = S := by unfold setS; rw [if_neg q]
    rw [e]
theorem sets_or {S : Bs} {i d n item day : Int} (h : setE S i d n = 0) (hE : priE S item day = 0) : priV (setS S i d n) item day = n ∨ priV (setS S i d n) item day = priV S item day := by
  unfold priV
  rw [priE_set, if_pos hE, if_pos hE, show setS S i d n = setted S i d n by unfold setS; rw [if_pos h], best_setted]
  unfold bstep
  split
  · exact .inl rfl
  · exact .inr rfl
theorem sets_at {S : Bs} {i d n : Int} (h : setE S i d n = 0) : priV (setS S i d n) i d = n ∧ priE (setS S i d n) i d = 0 := by
  obtain ⟨h1, h2, h3, h4, h5, h6⟩ := setE_zero h
  have hE : priE S i d = 0 := by unfold priE; rw [if_neg (by rw [h1]; simp), if_neg (by omega)]
  rw [priE_set]
  refine ⟨?_, hE⟩
  unfold priV
  rw [priE_set, if_pos hE, show setS S i d n = setted S i d n by unfold setS; rw [if_pos h], best_setted]
  obtain ⟨b0, b1, b2⟩ := best_is S i d
  have hlt : (best S i d).1 < d := by
    rcases b1 with b1 | ⟨x, hx, e1, e2, b1⟩
    · rw [b1]; show (0 : Int) < d; omega
    · rw [b1]
      show x.dy < d
      have : x.dy ≠ d := fun e => by
        have := twiB_iff.2 ⟨x, hx, e1, e⟩
        rw [h5] at this; cases this
      omega
  have hs : bstep i d (best S i d) ⟨i, d, n⟩ = (d, n) := by
    unfold bstep
    exact if_pos ⟨rfl, Int.le_refl _, hlt⟩
  rw [hs]
theorem pc_at {w : World} {a : Option Addr} {l : List Pc} (h : PcA w a l) {j : Nat} {x : Pc} (hx : l[j]? = some x) : ∃ b o, a = some ⟨b, o, none⟩ ∧ w.cell? ⟨b, o + j * 3, none⟩ = some (.int .i64 x.it) ∧ w.cell? ⟨b, o + j * 3 + 1, none⟩ = some (.int .i64 x.dy) ∧ w.cell? ⟨b, o + j * 3 + 2, none⟩ = some (.int .i64 x.n) := by
  rcases h with z | ⟨b, o, z, hz⟩
  · rw [z] at hx; simp at hx
  · exact ⟨b, o, z, hz j x hx 0 _ rfl, hz j x hx 1 _ rfl, hz j x hx 2 _ rfl⟩

end Go.Proofs.Ytjmgncjadfhmcaa

namespace Go.Proofs.Ytjmgncjadfhmcaa
open Go.RowKit

theorem fold_take {α β : Type} (f : β → α → β) (a : β) {l : List α} {k : Nat} {x : α} (hx : l[k]? = some x) : (l.take (k + 1)).foldl f a = f ((l.take k).foldl f a) x := by
  rw [List.take_add_one, hx, List.foldl_append]; rfl
section
variable {w : World} {p : Nat} {S : Bs}
set_option maxRecDepth 100000 in
set_option maxHeartbeats 8000000 in
theorem qprice_any (i d : Int) (h : Rb w p S) (hl : S.L.length ≤ 1000) : Calls Try.prog 43 #[.pointer (some ⟨p, 0, none⟩), .int .i64 i, .int .i64 d] w (PriR w S i d) := by
  obtain ⟨qa, qc, la, lc, hx⟩ := h
  have c0 := hx.c0
  have c1 := hx.c1
  unfold PriR priV
  cases h1 : hasB S i with
  | false =>
    have hE : priE S i d = 5 := by unfold priE; rw [if_pos h1]
    rw [hE, if_neg (by omega)]
    have hno : ¬ (0 ≤ i ∧ i < S.I.length) := fun z => by rw [hasB_iff.2 z] at h1; cases h1
    by_cases q : i < 0
    · have t0 : decide (i < 0) = true := decide_eq_true q
      clear hx h1 hE hno q
      go_enter Try.func43, Try.ntmps43
      go_wp2_with fail
      go_ret2
      exact ⟨rfl, Below.refl _ _⟩
    · have t0 : decide (i < 0) = false := decide_eq_false q
      have t1 : decide ((S.I.length : Int) ≤ i) = true := decide_eq_true (by omega)
      clear hx h1 hE hno q
      go_enter Try.func43, Try.ntmps43
      go_wp2_with fail
      go_ret2
      exact ⟨rfl, Below.refl _ _⟩
  | true =>
    have hI := hasB_iff.1 h1
    have t0 : decide (i < 0) = false := decide_eq_false (by omega)
    have t1 : decide ((S.I.length : Int) ≤ i) = false := decide_eq_false (by omega)
    by_cases h2 : d < 0
    · have hE : priE S i d = 1 := by unfold priE; rw [if_neg (by rw [h1]; simp), if_pos h2]
      rw [hE, if_neg (by omega)]
      clear hx h1 hE
      go_enter Try.func43, Try.ntmps43
      go_wp2_with fail
      go_ret2
      exact ⟨rfl, Below.refl _ _⟩
    · have hE : priE S i d = 0 := by unfold priE; rw [if_neg (by rw [h1]; simp), if_neg h2]
      rw [hE, if_pos rfl]
      obtain ⟨g, rfl⟩ : ∃ g : Nat, i = g := ⟨i.toNat, by omega⟩
      have hg : g < S.I.length := by omega
      obtain ⟨y, hy⟩ : ∃ y, S.I[g]? = some y := ⟨S.I[g], List.getElem?_eq_getElem _⟩
      have hpri : pri0 S g = y.pri := by
        unfold pri0
        rw [show ((g : Int).toNat) = g by omega, hy]; rfl
      obtain ⟨b, o, ha, hc⟩ : ∃ b o, qa = some ⟨b, o, none⟩ ∧ ∀ i x, S.I[i]? = some x → ∀ j v, (Im.cells x)[j]? = some v → w.cell? ⟨b, o + i * 4 + j, none⟩ = some v := by
        rcases hx.items with z | z
        · rw [z] at hg; simp at hg
        · exact z
      subst ha
      have k3 : w.cell? ⟨b, o + g * 4 + 3, none⟩ = some (.int .i64 y.pri) := hc g y hy 3 _ rfl
      have HX := Lib.hid hx
      obtain ⟨m, hm⟩ : ∃ m, m = S.L.length := ⟨_, rfl⟩
      have HM := Lib.hid hm
      have HC1 := Lib.hid c1
      have hbest : ∀ k, k = m → ∀ B : Int × Int, (S.L.take k).foldl (bstep g d) (0, y.pri) = B → (best S g d).2 = B.2 := fun k hk B hB => by
        unfold best
        rw [hpri, ← hB, List.take_of_length_le (by omega)]
      have HBest := Lib.hid hbest
      rw [← hm] at hl c1
      clear hx h1 hE hI hpri hc hbest hy hm
      go_enter Try.func43, Try.ntmps43
      go_wp2_with fail
      clear k3
      go_loopw [8, 9, 10] (fun out last j wr => ∃ (k : Nat) (A B : Int), k ≤ m ∧ j = .int .i64 (k : Int) ∧ last = .int .i64 A ∧ out = .int .i64 B ∧ Hid ((S.L.take k).foldl (bstep g d) (0, y.pri) = (A, B)) ∧ Below w.heap.size w wr) (fun _ _ j _ => m - (intOf j).toNat)
      case atStart => exact ⟨0, 0, y.pri, Nat.zero_le _, rfl, rfl, rfl, rfl, Below.refl _ _⟩
      case round =>
        obtain ⟨k, A, B, hk, rfl, rfl, rfl, HF, hb⟩ := hrel
        have HB := Lib.hid hb
        have d1 := kcell hb c1
        clear hb
        by_cases hlt : k < m
        · obtain ⟨x, hxk⟩ : ∃ x, S.L[k]? = some x := ⟨S.L[k]'(by rw [← HM.out]; exact hlt), List.getElem?_eq_getElem _⟩
          obtain ⟨b2, o2, hab, e0, e1, e2⟩ := pc_at (HX.out.pcs.up HB.out) hxk
          subst hab
          have hnext := fold_take (bstep g d) (0, y.pri) hxk
          rw [HF.out] at hnext
          have HNx := Lib.hid hnext
          have HB1 : Hid (Below w.heap.size w (wr.alloc (.cells #[.int .i64 x.it, .int .i64 x.dy, .int .i64 x.n] 105))) := HB.out.alloc HB.out.size _
          clear hxk hnext
          by_cases q1 : x.it = g
          · have r1 : (x.it == (g : Int)) = true := by simpa using q1
            by_cases q2 : x.dy ≤ d
            · have r2 : decide (x.dy ≤ d) = true := decide_eq_true q2
              by_cases q3 : A < x.dy
              · have r3 : decide (A < x.dy) = true := decide_eq_true q3
                have hs : Hid ((S.L.take (k + 1)).foldl (bstep g d) (0, y.pri) = (x.dy, x.n)) := by
                  have := HNx.out
                  unfold bstep at this ⊢
                  rw [if_pos ⟨q1, q2, q3⟩] at this; exact this
                clear q1 q2 q3
                go_wp2_with fail
                go_roundw
                case rel => exact ⟨k + 1, x.dy, x.n, by omega, by go_num, rfl, rfl, hs, HB1.out⟩
                case measure => simp [intOf]; omega
              · have r3 : decide (A < x.dy) = false := decide_eq_false q3
                have hs : Hid ((S.L.take (k + 1)).foldl (bstep g d) (0, y.pri) = (A, B)) := by
                  have := HNx.out
                  unfold bstep at this ⊢
                  rw [if_neg (fun z => q3 z.2.2)] at this; exact this
                clear q1 q2 q3
                go_wp2_with fail
                go_roundw
                case rel => exact ⟨k + 1, A, B, by omega, by go_num, rfl, rfl, hs, HB1.out⟩
                case measure => simp [intOf]; omega
            · have r2 : decide (x.dy ≤ d) = false := decide_eq_false q2
              have hs : Hid ((S.L.take (k + 1)).foldl (bstep g d) (0, y.pri) = (A, B)) := by
                have := HNx.out
                unfold bstep at this ⊢
                rw [if_neg (fun z => q2 z.2.1)] at this; exact this
              clear q1 q2
              go_wp2_with fail
              go_roundw
              case rel => exact ⟨k + 1, A, B, by omega, by go_num, rfl, rfl, hs, HB1.out⟩
              case measure => simp [intOf]; omega
          · have r1 : (x.it == (g : Int)) = false := by simpa using q1
            have hs : Hid ((S.L.take (k + 1)).foldl (bstep g d) (0, y.pri) = (A, B)) := by
              have := HNx.out
              unfold bstep at this ⊢
              rw [if_neg (fun z => q1 z.1)] at this; exact this
            clear q1
            go_wp2_with fail
            go_roundw
            case rel => exact ⟨k + 1, A, B, by omega, by go_num, rfl, rfl, hs, HB1.out⟩
            case measure => simp [intOf]; omega
        · have hB := HBest.out k (by omega) (A, B) HF.out
          have HBV := Lib.hid hB
          clear hB
          go_wp2_with fail
          go_ret2
          exact ⟨by rw [HBV.out]; rfl, HB.out⟩
end
end Go.Proofs.Ytjmgncjadfhmcaa
