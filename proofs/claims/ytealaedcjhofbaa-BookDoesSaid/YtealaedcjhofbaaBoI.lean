/- BookSets. -/
import Derived.Test.YtealaedcjhofbaaBoH
namespace Go.Proofs.Ytealaedcjhofbaa
open Go.RowKit

def setAll (S : Bs) (l : List Pc) : Bs := l.foldl (fun S x => setS S x.it x.dy x.n) S
theorem setAll_snoc (S : Bs) (l : List Pc) (x : Pc) : setAll S (l ++ [x]) = setS (setAll S l) x.it x.dy x.n := by
  unfold setAll; rw [List.foldl_append]; rfl
theorem setAll_take (S : Bs) (l : List Pc) {k : Nat} {x : Pc} (hx : l[k]? = some x) : setAll S (l.take (k + 1)) = setS (setAll S (l.take k)) x.it x.dy x.n := by
  rw [List.take_add_one, hx]; exact setAll_snoc S _ x
theorem sets_keep {S : Bs} {i d n item day : Int} (h : setE S i d n ≠ 0 ∨ item ≠ i ∨ day < d) : priV (setS S i d n) item day = priV S item day := by
  unfold priV
  rw [priE_set]
  by_cases q : setE S i d n = 0
  · have e : setS S i d n = setted S i d n := by unfold setS; rw [if_pos q]
    have hs : bstep item day (best S item day) ⟨i, d, n⟩ = best S item day := by
      unfold bstep
      refine if_neg ?_
      rintro ⟨h1, h2, _⟩
      have h1 : i = item := h1
      have h2 : d ≤ day := h2
      rcases h with h | h | h
      · exact h q
      · exact h h1.symm
      · omega
    rw [e, best_setted, hs]
  · have e : setS S i d n = S := by unfold setS; rw [if_neg q]
    rw [e]
theorem sets_or {S : Bs} {i d n item day : Int} (h : setE S i d n = 0) (hE : priE S item day = 0) : priV (setS S i d n) item day = n ∨ priV (setS S i d n) item day = priV S item day := by
  unfold priV
  rw [priE_set, if_pos hE, if_pos hE, show setS S i d n = setted S i d n by unfold setS; rw [if_pos h], best_setted]
  unfold bstep
  split
  · exact .inl rfl
  · exact .inr rfl
theorem sets_at {S : Bs} {i d n : Int} (h : setE S i d n = 0) : priV (setS S i d n) i d = n ∧ priE (setS S i d n) i d = 0 := by
  obtain ⟨h1, h2, h3, h4, h5, h6⟩ := setE_zero h
  have hE : priE S i d = 0 := by unfold priE; rw [if_neg (by rw [h1]; simp), if_neg (by omega)]
  rw [priE_set]
  refine ⟨?_, hE⟩
  unfold priV
  rw [priE_set, if_pos hE, show setS S i d n = setted S i d n by unfold setS; rw [if_pos h], best_setted]
  obtain ⟨b0, b1, b2⟩ := best_is S i d
  have hlt : (best S i d).1 < d := by
    rcases b1 with b1 | ⟨x, hx, e1, e2, b1⟩
    · rw [b1]; show (0 : Int) < d; omega
    · rw [b1]
      show x.dy < d
      have : x.dy ≠ d := fun e => by
        have := twiB_iff.2 ⟨x, hx, e1, e⟩
        rw [h5] at this; cases this
      omega
  have hs : bstep i d (best S i d) ⟨i, d, n⟩ = (d, n) := by
    unfold bstep
    exact if_pos ⟨rfl, Int.le_refl _, hlt⟩
  rw [hs]
theorem pc_at {w : World} {a : Option Addr} {l : List Pc} (h : PcA w a l) {j : Nat} {x : Pc} (hx : l[j]? = some x) : ∃ b o, a = some ⟨b, o, none⟩ ∧ w.cell? ⟨b, o + j * 3, none⟩ = some (.int .i64 x.it) ∧ w.cell? ⟨b, o + j * 3 + 1, none⟩ = some (.int .i64 x.dy) ∧ w.cell? ⟨b, o + j * 3 + 2, none⟩ = some (.int .i64 x.n) := by
  rcases h with z | ⟨b, o, z, hz⟩
  · rw [z] at hx; simp at hx
  · exact ⟨b, o, z, hz j x hx 0 _ rfl, hz j x hx 1 _ rfl, hz j x hx 2 _ rfl⟩

set_option maxRecDepth 100000 in
set_option maxHeartbeats 16000000 in
theorem sets_law (w : World) (a0 : Option Addr) (cap0 : Nat) (I : List Im) (hI : ItA w a0 I) (ha : a0 = none → cap0 = 0) (hp : ∀ x ∈ I, Am x.pri)
    (a1 : Option Addr) (cap1 : Nat) (l : List Pc) (hL : PcA w a1 l) (hm : ∀ x ∈ l, Am x.n) (x : Pc) (hx : Am x.n) (item day : Int) :
    Calls Try.prog 4 #[.slice a0 I.length cap0, .slice a1 l.length cap1, .agg #[.int .i64 x.it, .int .i64 x.dy, .int .i64 x.n], .int .i64 item, .int .i64 day] w fun e w' => e = .returned (.bool true) ∧ Below w.heap.size w w' := by
  obtain ⟨n, hn⟩ : ∃ n, n = I.length := ⟨_, rfl⟩
  obtain ⟨m, hml⟩ : ∃ m, m = l.length := ⟨_, rfl⟩
  rw [← hn, ← hml]
  obtain ⟨W0, hW0⟩ : ∃ W0, W0 = w.alloc (.cells #[.int .i64 x.it, .int .i64 x.dy, .int .i64 x.n] 35) := ⟨_, rfl⟩
  have hb0 : Below w.heap.size w W0 := by rw [hW0]; exact boxed _ _
  have hbx : Has W0 w.heap.size 35 #[.int .i64 x.it, .int .i64 x.dy, .int .i64 x.n] := by rw [hW0]; exact Has.fresh _ _ _
  have HI := Lib.hid (hI.up hb0)
  have HL := Lib.hid (hL.up hb0)
  have HBX := Lib.hid hbx
  have HB0 := Lib.hid hb0
  have HW0 := Lib.hid hW0
  have HN := Lib.hid hn
  have HML := Lib.hid hml
  have HP := Lib.hid hp
  have HM := Lib.hid hm
  have HX := Lib.hid hx
  have HA := Lib.hid ha
  clear hI ha hp hL hm hx hn hml hb0 hbx hW0
  by_cases q : (decide (50 < n) || decide (130 < m)) = true
  · go_enter Try.func4, Try.ntmps4
    go_wp2_with fail
    rw [← HW0.out]
    refine (awake_any10 W0).mono ?_
    rintro e w1 ⟨rfl, hb⟩
    have HB1 := Lib.hid (up2 HB0.out hb)
    clear hb
    go_wp2_with fail
    refine (large_any a0 a1 n m cap0 cap1 w1).mono ?_
    rintro e w2 ⟨rfl, rfl⟩
    rw [q]
    go_wp2_with fail
    go_ret
    exact ⟨rfl, HB1.out⟩
  · have q0 : (decide (50 < n) || decide (130 < m)) = false := by simpa using q
    have hm130 : m ≤ 130 := by simp at q; omega
    have hn50 : n ≤ 50 := by simp at q; omega
    have Q0 := Lib.hid q0
    clear q q0
    go_enter Try.func4, Try.ntmps4
    go_wp2_with fail
    rw [← HW0.out]
    refine (awake_any10 W0).mono ?_
    rintro e w1 ⟨rfl, hb⟩
    have HB1 := Lib.hid hb
    clear hb
    go_wp2_with fail
    refine (large_any a0 a1 n m cap0 cap1 w1).mono ?_
    rintro e w2 ⟨rfl, rfl⟩
    rw [Q0.out]
    go_wp2_with fail
    refine (bnew_any a0 n cap0 I w1 HN.out.symm (HI.out.up HB1.out) HA.out HP.out).mono ?_
    rintro e w2 (⟨_, rfl, hb⟩ | ⟨hE, p, r, rfl, hbk, hb, hr⟩)
    · have HB2 := Lib.hid (HB0.out.trans ((up2 HB1.out hb).mono HB0.out.size))
      clear hb
      go_wp2_with fail
      go_ret
      exact ⟨rfl, HB2.out⟩
    · have K2 : Hid (Sb W0 w2 p r ⟨I, []⟩) := ⟨hbk, up2 HB1.out hb, Nat.le_trans HB1.out.size hr⟩
      clear hE hbk hb hr
      go_wp2_with fail
      go_loopw [36] (fun i wr => ∃ k : Nat, k ≤ m ∧ i = .int .i64 (k : Int) ∧ Sb W0 wr p r (setAll ⟨I, []⟩ (l.take k))) (fun i _ => m - (intOf i).toNat)
      case atStart => exact ⟨0, Nat.zero_le _, rfl, K2.out⟩
      case round =>
        obtain ⟨k, hk, rfl, hS⟩ := hrel
        have HS := Lib.hid hS
        clear hS
        by_cases hlt : k < m
        · obtain ⟨y, hy⟩ : ∃ y, l[k]? = some y := ⟨l[k]'(by rw [← HML.out]; exact hlt), List.getElem?_eq_getElem _⟩
          obtain ⟨b, o, hab, c0, c1, c2⟩ := pc_at (HL.out.up HS.out.bel) hy
          subst hab
          have HY := Lib.hid hy
          have hset := (HS.out.up (boxed wr (.cells #[.int .i64 y.it, .int .i64 y.dy, .int .i64 y.n] 35))).set y.it y.dy y.n (HM.out y (List.mem_of_getElem? hy))
          rw [← setAll_take _ _ hy] at hset
          have HSet := Lib.hid hset
          clear hy hset
          go_wp2_with fail
          refine HSet.out.mono ?_
          rintro e w3 ⟨rfl, hs⟩
          have HS3 := Lib.hid hs
          clear hs c0 c1 c2
          go_wp2_with fail
          go_roundw
          case rel => exact ⟨k + 1, by omega, by go_num, HS3.out⟩
          case measure => simp [intOf]; omega
        · obtain ⟨S, hS⟩ : ∃ S, S = setAll ⟨I, []⟩ (l.take k) := ⟨_, rfl⟩
          rw [← hS] at HS
          have HE := Lib.hid (HS.out.bel)
          clear hS
          go_wp2_with fail
          refine (price_any item day HS.out.bk).mono ?_
          rintro e w3 ⟨rfl, hb⟩
          have HS3 := Lib.hid (HS.out.up hb)
          clear hb HE
          have HB3 := Lib.hid (HBX.out.up HS3.out.bel)
          have d0 : w3.cell? ⟨w.heap.size, 0, none⟩ = some (.int .i64 x.it) := HB3.out.cell 0
          have d1 : w3.cell? ⟨w.heap.size, 1, none⟩ = some (.int .i64 x.dy) := HB3.out.cell 1
          have d2 : w3.cell? ⟨w.heap.size, 2, none⟩ = some (.int .i64 x.n) := HB3.out.cell 2
          go_wp2_with fail
          refine (HS3.out.set x.it x.dy x.n HX.out).mono ?_
          rintro e w4 ⟨rfl, hs⟩
          have HS4 := Lib.hid hs
          clear hs d0 d1 d2
          go_wp2_with fail
          refine (price_any item day HS4.out.bk).mono ?_
          rintro e w5 ⟨rfl, hb⟩
          have HS5 := Lib.hid (HS4.out.up hb)
          clear hb
          rw [priE_set]
          have HB5 := Lib.hid (HBX.out.up HS5.out.bel)
          have d0 : w5.cell? ⟨w.heap.size, 0, none⟩ = some (.int .i64 x.it) := HB5.out.cell 0
          have d1 : w5.cell? ⟨w.heap.size, 1, none⟩ = some (.int .i64 x.dy) := HB5.out.cell 1
          have d2 : w5.cell? ⟨w.heap.size, 2, none⟩ = some (.int .i64 x.n) := HB5.out.cell 2
          have HEnd : Hid (Below w.heap.size w w5) := HB0.out.trans (HS5.out.bel.mono HB0.out.size)
          have hne : (priE S item day != priE S item day) = false := by simp
          obtain ⟨E, hE⟩ : ∃ E, E = priE S item day := ⟨_, rfl⟩
          obtain ⟨F, hF⟩ : ∃ F, F = setE S x.it x.dy x.n := ⟨_, rfl⟩
          obtain ⟨A, hA⟩ : ∃ A, A = priV S item day := ⟨_, rfl⟩
          obtain ⟨B, hB⟩ : ∃ B, B = priV (setS S x.it x.dy x.n) item day := ⟨_, rfl⟩
          have hkeep : F ≠ 0 ∨ item ≠ x.it ∨ day < x.dy → B = A := fun h => by rw [hB, hA]; exact sets_keep (by rw [← hF]; exact h)
          have hin : F = 0 → item = x.it → x.dy ≤ day → (B = x.n ∨ B = A) := fun h1 h2 h3 => by
            rw [hB, hA]
            refine sets_or (by rw [← hF]; exact h1) ?_
            obtain ⟨z1, z2, _⟩ := setE_zero (S := S) (by rw [← hF]; exact h1)
            unfold priE
            rw [h2, if_neg (by rw [z1]; simp), if_neg (by omega)]
          have hat : F = 0 → priV (setS S x.it x.dy x.n) x.it x.dy = x.n ∧ priE (setS S x.it x.dy x.n) x.it x.dy = 0 := fun h => sets_at (by rw [← hF]; exact h)
          rw [← hE, ← hF, ← hA, ← hB]
          rw [← hE] at hne
          have HKp := Lib.hid hkeep
          have HIn := Lib.hid hin
          have HAt := Lib.hid hat
          clear hE hF hA hB hkeep hin hat
          by_cases z1 : F = 0
          · subst z1
            by_cases z2 : item = x.it
            · subst z2
              by_cases z3 : day < x.dy
              · obtain rfl := HKp.out (.inr (.inr z3))
                go_wp2_with fail
                go_ret
                exact ⟨rfl, HEnd.out⟩
              · have hor := HIn.out rfl rfl (by omega)
                have HOr := Lib.hid hor
                have HAt1 := Lib.hid (HAt.out rfl)
                clear hor HAt HKp HIn
                go_wp2_with fail
                refine (price_any x.it x.dy HS5.out.bk).mono ?_
                rintro e w6 ⟨rfl, hb⟩
                have e0 := kcell hb d0
                have e1 := kcell hb d1
                have e2 := kcell hb d2
                have HEnd6 := Lib.hid (up2 HEnd.out hb)
                rw [HAt1.out.1, HAt1.out.2]
                clear hb d0 d1 d2
                rcases HOr.out with z4 | z4
                · have z5 : (B == x.n) = true := by rw [z4]; simp
                  clear z4
                  go_wp2_with fail
                  go_ret
                  exact ⟨rfl, HEnd6.out⟩
                · have z5 : (B == A) = true := by rw [z4]; simp
                  clear z4
                  go_wp2_with fail
                  all_goals
                    go_ret
                    exact ⟨rfl, HEnd6.out⟩
            · obtain rfl := HKp.out (.inr (.inl z2))
              have z3 : (item != x.it) = true := by simpa using z2
              clear z2
              go_wp2_with fail
              go_ret
              exact ⟨rfl, HEnd.out⟩
          · obtain rfl := HKp.out (.inl z1)
            have z3 : (F != 0) = true := by simpa using z1
            clear z1
            go_wp2_with fail
            go_ret
            exact ⟨rfl, HEnd.out⟩
end Go.Proofs.Ytealaedcjhofbaa
