/- The reference's Read. -/
import Derived.Test.YtmfgdpbnnlmjhaaCxO
import Derived.Test.YtmfgdpbnnlmjhaaCxE
namespace Go.Proofs.Ytmfgdpbnnlmjhaa
open Go.RowKit

/-- what stands in memory while bytes are read by the reference -/
structure Rik (w wr : World) (k : Nat) (v : Value) (xs : List Int) : Prop where
  d : Has wr w.heap.size 30 #[.int .i64 0, .slice none 0 0]
  c : Has wr (w.heap.size + 1) 30 #[.int .i64 (k : Int), v]
  own : OwnI wr (w.heap.size + 2) v xs
  bel : Below w.heap.size w wr
  siz : w.heap.size + 2 ≤ wr.heap.size
theorem Rik.fresh (w : World) (k : Nat) : Rik w ((w.alloc (.cells #[.int .i64 0, .slice none 0 0] 30)).alloc (.cells #[.int .i64 (k : Int), .slice none 0 0] 30)) k (.slice none 0 0) [] where
  d := (Has.fresh w _ _).more _
  c := by
    have := Has.fresh (w.alloc (.cells #[.int .i64 0, .slice none 0 0] 30)) 30 #[.int .i64 (k : Int), .slice none 0 0]
    simp at this
    exact this
  own := World.ownsRow_nil _ _ _ _
  bel := ((Below.refl _ _).alloc (Nat.le_refl _) _).alloc (by simp) _
  siz := by simp
theorem Rik.up {w wr w1 : World} {k : Nat} {v : Value} {xs : List Int} (h : Rik w wr k v xs) (q : Below wr.heap.size wr w1) : Rik w w1 k v xs where
  d := h.d.up q
  c := h.c.up q
  own := h.own.up q
  bel := up2 h.bel q
  siz := Nat.le_trans h.siz q.size
theorem Rik.app {w wr w1 : World} {k : Nat} {v v' : Value} {xs : List Int} {n : Int} (h : Rik w wr k v xs) (g : (wr.alloc (.cells #[.int .i64 n] 2)).grownBy w1 v.ownBlock) (o : w1.ownsRow (w.heap.size + 2) 2 1 v' (xs.length + 1) (intV xs ++ [.int .i64 n])) :
    Has w1 (w.heap.size + 1) 30 #[.int .i64 (k : Int), v] ∧ Rik w (w1.setCell ⟨w.heap.size + 1, 1, none⟩ v') k v' (xs ++ [n]) := by
  have hne : ∀ j, j < w.heap.size + 2 → some j ≠ v.ownBlock := fun j hj e => by have := (h.own.lt j e.symm).1; omega
  have hs := h.siz
  have hd : Has w1 w.heap.size 30 #[.int .i64 0, .slice none 0 0] := (g.block _ (by simp; omega) (hne _ (by omega))).trans (h.d.more _)
  have hc : Has w1 (w.heap.size + 1) 30 #[.int .i64 (k : Int), v] := (g.block _ (by simp; omega) (hne _ (by omega))).trans (h.c.more _)
  have hz := g.size
  refine ⟨hc, hd.off (by simp) _, hc.put 1 v', ?_, ?_, ?_⟩
  · have : w1.ownsRow (w.heap.size + 2) 2 1 v' (xs ++ [n]).length (intV (xs ++ [n])) := by rw [intV_snoc, List.length_append]; exact o
    refine this.kept (row := some (w.heap.size + 1)) ⟨rfl, rfl, rfl, by simp [World.setCell], fun i _ hi => Below.heap_setCell _ _ _ _ (fun e => hi (by simp [e]))⟩ ?_
    cases e : v'.ownBlock with
    | none => exact .inl rfl
    | some j => exact .inr (fun q => by have := (o.lt j e).1; injection q; omega)
  · exact ((h.bel.alloc (by have := h.bel.size; omega) _).grown g (by simp; omega) (fun j e => by have := (h.own.lt j e).1; omega)).setCell (by simp) _
  · simp [World.setCell] at hz ⊢; omega
set_option maxRecDepth 100000 in
set_option maxHeartbeats 4000000 in
theorem kread_ex (s : ByteArray) (w : World) (hs6 : s.size ≤ 1000000) :
    Calls Try.prog 11 #[.string s] w fun e w' => (∃ a v, Rd s.data.toList a ∧ e = .returned v ∧ RdR w' w.heap.size v a) ∧ Below w.heap.size w w' := by
  by_cases hs : s.size < 2
  · have HT : Hid (Rd s.data.toList none) := rd_short (by rw [list_size]; exact hs)
    have h1 : (s.size : Int) < 2 := by omega
    clear hs
    go_enter Try.func11, Try.ntmps11
    go_wp2
    exact bodyPost_ret (v := .tuple #[.agg #[.int .i64 0, .slice none 0 0], .int .i64 2]) (by simp [results, Try.results11, go_sem]) rfl ⟨⟨none, _, HT.out, rfl, rfl⟩, boxed _ _⟩
  · have hl0 : 0 < s.size := by omega
    have hl1 : 1 < s.size := by omega
    have e2 := two_ahead s (by omega)
    have hi1 : ¬ ((s.size : Int) < 2) := by omega
    obtain ⟨A, hA⟩ : ∃ A, A = s[0]'hl0 := ⟨_, rfl⟩
    obtain ⟨M, hM⟩ : ∃ M, M = s[1]'hl1 := ⟨_, rfl⟩
    obtain ⟨L, hL⟩ : ∃ L, L = s.data.toList.drop 2 := ⟨_, rfl⟩
    rw [← hA, ← hM, ← hL] at e2
    have hM255 : M.toNat < 256 := M.toNat_lt
    have HS := Lib.hid e2
    have hw0 : IntKind.i64.wrap ((s[0]'hl0).toNat : Int) = ((s[0]'hl0).toNat : Int) := by
      have := (s[0]'hl0).toNat_lt
      rw [IntWalk.i64_in _ (by omega)]
    have hw1 : IntKind.i64.wrap ((s[1]'hl1).toNat : Int) = ((s[1]'hl1).toNat : Int) := by
      have := (s[1]'hl1).toNat_lt
      rw [IntWalk.i64_in _ (by omega)]
    clear e2
    go_enter Try.func11, Try.ntmps11
    go_wp2_with fail
    rw [← hA]
    clear hA hw0
    have R0 := Lib.hid (Rik.fresh w A.toNat)
    have hd0 : (s.data.toList.drop 2) = L := hL.symm
    have hs2 : 2 ≤ s.size := by omega
    go_loopw [5, 6] (fun l i wr => ∃ (k j : Nat) (xs : List Int) (r : List UInt8) (v : Value), k ≤ M.toNat ∧ j ≤ s.size ∧ i = .int .i64 (k : Int) ∧ l = .int .i64 (j : Int) ∧ Hid (xs.length = k ∧ (∀ x ∈ xs, Am x) ∧ L = flat xs ++ r ∧ s.data.toList.drop j = r ∧ Rik w wr A.toNat v xs)) (fun _ i _ => 256 - (intOf i).toNat)
    case atStart => exact ⟨0, 2, [], L, _, Nat.zero_le _, hs2, rfl, rfl, by simp, by simp, by simp [flat], hd0, R0.out⟩
    case round =>
      obtain ⟨k, j, xs, r, v, hk, hj, rfl, rfl, HI⟩ := hrel
      have hji : (j : Int) ≤ (s.size : Int) := by omega
      by_cases hlt : k < M.toNat
      · have hki : (k : Int) < ((s[1]'hl1).toNat : Int) := by rw [← hM]; omega
        have hex : s.extract j s.size = str r := by rw [rest_of, HI.out.2.2.2.1]
        have hrl : j + r.length = s.size := by
          have := congrArg List.length HI.out.2.2.2.1
          rw [List.length_drop, list_size] at this
          omega
        obtain ⟨a, ha⟩ := tk_ex r
        cases a with
        | none =>
          have HT : Hid (Rd s.data.toList none) := by
            show Rd s.data.toList none
            rw [HS.out, HI.out.2.2.1]
            exact rd_miss (by rw [HI.out.1]; exact hlt) ha
          have TC := Lib.hid (fun W => ktake_no r W ha)
          have HB0 := Lib.hid HI.out.2.2.2.2.bel
          have HD0 := Lib.hid HI.out.2.2.2.2.d
          obtain ⟨X, hX⟩ : ∃ X, X = str r := ⟨_, rfl⟩
          rw [← hX] at TC hex
          clear HI ha R0 hd0 hX
          go_wp2_with fail
          refine (TC.out _).mono ?_
          rintro e w' ⟨rfl, hb⟩
          have HB := Lib.hid (up2 HB0.out hb)
          have d0 : w'.cell? ⟨w.heap.size, 0, none⟩ = some (.int .i64 0) := (HD0.out.up hb).cell 0
          have d1 : w'.cell? ⟨w.heap.size, 1, none⟩ = some (.slice none 0 0) := (HD0.out.up hb).cell 1
          have f0 := (HD0.out.up hb).free 0
          have f1 := (HD0.out.up hb).free 1
          clear hb HB0 HD0
          go_wp2
          have e0 : ((w'.setCell ⟨w.heap.size, 0, none⟩ (.int .i64 0)).setCell ⟨w.heap.size, 1, none⟩ (.slice none 0 0)).cell? ⟨w.heap.size, 0, none⟩ = some (.int .i64 0) := cset (csame d0) (.inr (by omega))
          have e1 : ((w'.setCell ⟨w.heap.size, 0, none⟩ (.int .i64 0)).setCell ⟨w.heap.size, 1, none⟩ (.slice none 0 0)).cell? ⟨w.heap.size, 1, none⟩ = some (.slice none 0 0) := csame (cset d1 (.inr (by omega)))
          exact bodyPost_ret (v := .tuple #[.agg #[.int .i64 0, .slice none 0 0], .int .i64 2]) (by simp [results, Try.results11, go_sem, e0, e1]) rfl ⟨⟨none, _, HT.out, rfl, rfl⟩, (HB.out.setCell (Nat.le_refl _) _).setCell (Nat.le_refl _) _⟩
        | some n =>
          obtain ⟨hn, q, hq⟩ := ha
          have TC := Lib.hid (fun W => ktake_yes r n W ⟨hn, q, hq⟩)
          obtain ⟨u, hu⟩ : ∃ u, u = nl n := ⟨_, rfl⟩
          have hul : r.length = u + q.length := by rw [hq, List.length_append, hu]; rfl
          have hdq : s.data.toList.drop (j + u) = q := by
            rw [← List.drop_drop, HI.out.2.2.2.1, hq, hu]
            exact List.drop_left' rfl
          have hju : j + u ≤ s.size := by omega
          rw [← hu] at TC
          have HI2 := Lib.hid HI.out
          obtain ⟨X, hX⟩ : ∃ X, X = str r := ⟨_, rfl⟩
          rw [← hX] at TC hex
          have HQ := Lib.hid (And.intro hq hdq)
          have HN := Lib.hid hn
          have hxk := Lib.hid HI.out.1
          obtain ⟨i0, hi, hz0, hz1, hz2⟩ := info_parts infoI64
          clear HI hq hn hX hu hul hdq R0 hd0 hrl
          go_wp2_with fail
          refine (TC.out _).mono ?_
          rintro e w' ⟨rfl, hb⟩
          have HR1 := Lib.hid (HI2.out.2.2.2.2.up hb)
          clear hb
          have c1 : w'.cell? ⟨w.heap.size + 1, 1, none⟩ = some v := HR1.out.c.cell 1
          have hown := HR1.out.own
          unfold OwnI at hown
          have hsz := HR1.out.siz
          rw [hxk.out] at hown
          go_wp2_with (first | (at_builtin; refine wpList_append_own _ rfl _ _ 22 rfl (w.heap.size + 2) 2 i0 (.int .i64 0) 1 8 Try.underlying22 hi hz0 hz1 hz2 rfl (by decide) _ _ _ rfl (World.ownsRow.alloc hown _) ⟨w'.heap.size, 0, none⟩ 1 1 [.int .i64 n] rfl rfl (one_new _ _ _) (one_int _) ?c3 ?c4 ?c5 ?_))
          case c3 => unfold maxLen; omega
          case c4 => omega
          case c5 => (first | omega | (simp; omega))
          intro v' w1 hown' hgrow _
          obtain ⟨hc1, HR⟩ := HR1.out.app hgrow (by rw [HI2.out.1]; exact hown')
          have d1 := hc1.cell 1
          have f1 := hc1.free 1
          have HX := Lib.hid HR
          obtain ⟨a', c', e, _⟩ := HR.own.slice
          clear hown' hgrow hown hc1 HR
          rw [List.length_append, List.length_singleton] at e
          subst e
          go_wp2
          go_roundw
          case rel =>
            refine ⟨k + 1, j + u, xs ++ [n], q, _, by omega, hju, by go_num, by go_num, by rw [List.length_append, HI2.out.1]; rfl, ?_, ?_, HQ.out.2, HX.out⟩
            · intro x hx2
              rcases List.mem_append.1 hx2 with z | z
              · exact HI2.out.2.1 x z
              · simp at z; rw [z]; exact HN.out
            · rw [HI2.out.2.2.1, HQ.out.1, flat_app, flat_one, List.append_assoc]
          case measure => simp [intOf]; omega
      · have hkM : k = M.toNat := by omega
        have hki : ¬ ((k : Int) < ((s[1]'hl1).toNat : Int)) := by rw [← hM]; omega
        have HB0 := Lib.hid HI.out.2.2.2.2.bel
        have HD0 := Lib.hid HI.out.2.2.2.2.d
        have HC0 := Lib.hid HI.out.2.2.2.2.c
        have HO0 := Lib.hid HI.out.2.2.2.2.own
        have c0 : wr.cell? ⟨w.heap.size + 1, 0, none⟩ = some (.int .i64 (A.toNat : Int)) := HI.out.2.2.2.2.c.cell 0
        have c1 : wr.cell? ⟨w.heap.size + 1, 1, none⟩ = some v := HI.out.2.2.2.2.c.cell 1
        obtain ⟨a', c', e, hna⟩ := HI.out.2.2.2.2.own.slice
        subst e
        obtain ⟨n, hn⟩ : ∃ n, n = xs.length := ⟨_, rfl⟩
        by_cases h64 : xs.length ≤ 64
        · have hA255 : A.toNat < 256 := A.toNat_lt
          have TP := Lib.hid (kput_ok (A.toNat : Int) a' c' xs wr hna HI.out.2.1 ⟨by omega, by omega, h64⟩)
          have hputL : putL (A.toNat : Int) xs = A :: M :: flat xs := by
            unfold putL
            rw [HI.out.1, hkM, Int.toNat_natCast, UInt8.ofNat_toNat, UInt8.ofNat_toNat]
          have hsl : s.data.toList = A :: M :: (flat xs ++ r) := by rw [HS.out, HI.out.2.2.1]
          rw [hputL] at TP
          rw [← hn] at TP
          obtain ⟨Y, hY⟩ : ∃ Y, Y = str (A :: M :: flat xs) := ⟨_, rfl⟩
          rw [← hY] at TP
          rw [← hn] at c1
          by_cases hr : r = []
          · have HT : Hid (Rd s.data.toList (some (A.toNat, xs))) := by
              show Rd _ _
              rw [hsl, hr, List.append_nil]
              exact rd_hit (by rw [HI.out.1, hkM]) (by rw [← hkM, ← HI.out.1]; exact h64) HI.out.2.1
            have hYs : Y = s := by rw [hY, ← str_of s, hsl, hr, List.append_nil]
            have hq2 : (s.toList != s.toList) = false := by simp [bne]
            have Hn := Lib.hid hn
            clear HI R0 hd0 hkM hr hsl hY hputL hna hn h64
            go_wp2_with fail
            refine TP.out.mono ?_
            rintro e w1 ⟨rfl, hb⟩
            have HB := Lib.hid (up2 HB0.out hb)
            have d0 : w1.cell? ⟨w.heap.size, 0, none⟩ = some (.int .i64 0) := (HD0.out.up hb).cell 0
            have d1 : w1.cell? ⟨w.heap.size, 1, none⟩ = some (.slice none 0 0) := (HD0.out.up hb).cell 1
            have f0 := (HD0.out.up hb).free 0
            have f1 := (HD0.out.up hb).free 1
            have c0 : w1.cell? ⟨w.heap.size + 1, 0, none⟩ = some (.int .i64 (A.toNat : Int)) := kcell hb c0
            have c1 : w1.cell? ⟨w.heap.size + 1, 1, none⟩ = some (.slice a' n c') := kcell hb c1
            have HO := Lib.hid (HO0.out.up hb)
            clear hb
            subst hYs
            go_wp2
            have e0 : ((w1.setCell ⟨w.heap.size, 0, none⟩ (.int .i64 (A.toNat : Int))).setCell ⟨w.heap.size, 1, none⟩ (.slice a' n c')).cell? ⟨w.heap.size, 0, none⟩ = some (.int .i64 (A.toNat : Int)) := cset (csame d0) (.inr (by omega))
            have e1 : ((w1.setCell ⟨w.heap.size, 0, none⟩ (.int .i64 (A.toNat : Int))).setCell ⟨w.heap.size, 1, none⟩ (.slice a' n c')).cell? ⟨w.heap.size, 1, none⟩ = some (.slice a' n c') := csame (cset d1 (.inr (by omega)))
            exact bodyPost_ret (v := .tuple #[.agg #[.int .i64 (A.toNat : Int), .slice a' n c'], .int .i64 0]) (by simp [results, Try.results11, go_sem, e0, e1]) rfl ⟨⟨_, _, HT.out, rfl, _, rfl, by rw [Hn.out]; exact ((HO.out.off (by simp) _).off (by simp) _).lower (by omega)⟩, (HB.out.setCell (Nat.le_refl _) _).setCell (Nat.le_refl _) _⟩
          · have HT : Hid (Rd s.data.toList none) := by
              show Rd s.data.toList none
              rw [hsl]
              exact rd_behind (by rw [HI.out.1, hkM]) hr
            have hYs : Y ≠ s := fun e => hr (by
              have := congrArg (fun x : ByteArray => x.data.toList) e
              simp only [hY, str_list, hsl] at this
              simpa using this)
            have hq : (Y.toList == s.toList) = false := by rw [strs_eq, decide_eq_false hYs]
            have hq2 : (Y.toList != s.toList) = true := by rw [bne, hq]; rfl
            clear HI R0 hd0 hkM hr hsl hY hYs hputL hna hn h64 HC0 HO0
            go_wp2_with fail
            refine TP.out.mono ?_
            rintro e w1 ⟨rfl, hb⟩
            have HB := Lib.hid (up2 HB0.out hb)
            have d0 : w1.cell? ⟨w.heap.size, 0, none⟩ = some (.int .i64 0) := (HD0.out.up hb).cell 0
            have d1 : w1.cell? ⟨w.heap.size, 1, none⟩ = some (.slice none 0 0) := (HD0.out.up hb).cell 1
            have f0 := (HD0.out.up hb).free 0
            have f1 := (HD0.out.up hb).free 1
            clear hb
            go_wp2
            have e0 : ((w1.setCell ⟨w.heap.size, 0, none⟩ (.int .i64 0)).setCell ⟨w.heap.size, 1, none⟩ (.slice none 0 0)).cell? ⟨w.heap.size, 0, none⟩ = some (.int .i64 0) := cset (csame d0) (.inr (by omega))
            have e1 : ((w1.setCell ⟨w.heap.size, 0, none⟩ (.int .i64 0)).setCell ⟨w.heap.size, 1, none⟩ (.slice none 0 0)).cell? ⟨w.heap.size, 1, none⟩ = some (.slice none 0 0) := csame (cset d1 (.inr (by omega)))
            exact bodyPost_ret (v := .tuple #[.agg #[.int .i64 0, .slice none 0 0], .int .i64 2]) (by simp [results, Try.results11, go_sem, e0, e1]) rfl ⟨⟨none, _, HT.out, rfl, rfl⟩, (HB.out.setCell (Nat.le_refl _) _).setCell (Nat.le_refl _) _⟩
        · have HT : Hid (Rd s.data.toList none) := by
            show Rd s.data.toList none
            rw [HS.out]
            exact rd_many (by rw [← hkM, ← HI.out.1]; omega)
          have TP := Lib.hid (kput_no (A.toNat : Int) a' n c' wr (fun h => h64 (by rw [← hn]; exact h.2.2)))
          rw [← hn] at c1
          clear HI R0 hd0 hkM hna hn h64 HC0 HO0
          go_wp2_with fail
          refine TP.out.mono ?_
          rintro e w1 ⟨rfl, hb⟩
          have HB := Lib.hid (up2 HB0.out hb)
          have d0 : w1.cell? ⟨w.heap.size, 0, none⟩ = some (.int .i64 0) := (HD0.out.up hb).cell 0
          have d1 : w1.cell? ⟨w.heap.size, 1, none⟩ = some (.slice none 0 0) := (HD0.out.up hb).cell 1
          have f0 := (HD0.out.up hb).free 0
          have f1 := (HD0.out.up hb).free 1
          clear hb
          go_wp2
          have e0 : ((w1.setCell ⟨w.heap.size, 0, none⟩ (.int .i64 0)).setCell ⟨w.heap.size, 1, none⟩ (.slice none 0 0)).cell? ⟨w.heap.size, 0, none⟩ = some (.int .i64 0) := cset (csame d0) (.inr (by omega))
          have e1 : ((w1.setCell ⟨w.heap.size, 0, none⟩ (.int .i64 0)).setCell ⟨w.heap.size, 1, none⟩ (.slice none 0 0)).cell? ⟨w.heap.size, 1, none⟩ = some (.slice none 0 0) := csame (cset d1 (.inr (by omega)))
          exact bodyPost_ret (v := .tuple #[.agg #[.int .i64 0, .slice none 0 0], .int .i64 2]) (by simp [results, Try.results11, go_sem, e0, e1]) rfl ⟨⟨none, _, HT.out, rfl, rfl⟩, (HB.out.setCell (Nat.le_refl _) _).setCell (Nat.le_refl _) _⟩
theorem kread_any (s : ByteArray) (a : Option (Nat × List Int)) (w : World) (hs6 : s.size ≤ 1000000) (h : Rd s.data.toList a) :
    Calls Try.prog 11 #[.string s] w fun e w' => ∃ v, e = .returned v ∧ RdR w' w.heap.size v a ∧ Below w.heap.size w w' :=
  (kread_ex s w hs6).mono fun _ _ ⟨⟨_, v, h1, e, hr⟩, hb⟩ => ⟨v, e, by rw [← h1.one h]; exact hr, hb⟩
theorem kread_yes (r : List UInt8) (k : Nat) (xs : List Int) (w : World) (hr : r.length ≤ 1000000) (h : Rd r (some (k, xs))) :
    Calls Try.prog 11 #[.string (str r)] w fun e w' => ∃ a c, e = .returned (.tuple #[.agg #[.int .i64 (k : Nat), .slice a xs.length c], .int .i64 0]) ∧ NumA w' a xs ∧ Below w.heap.size w w' :=
  (kread_any (str r) (some (k, xs)) w (by rw [str_size]; exact hr) (by rw [str_list]; exact h)).mono fun _ _ ⟨v, e, ⟨s, hv, ho⟩, hb⟩ => by
    obtain ⟨a, c, hs, hn⟩ := ho.slice
    exact ⟨a, c, by rw [e, hv, hs], hn, hb⟩
theorem kread_no (r : List UInt8) (w : World) (hr : r.length ≤ 1000000) (h : Rd r none) :
    Calls Try.prog 11 #[.string (str r)] w fun e w' => e = .returned (.tuple #[.agg #[.int .i64 0, .slice none 0 0], .int .i64 2]) ∧ Below w.heap.size w w' :=
  (kread_any (str r) none w (by rw [str_size]; exact hr) (by rw [str_list]; exact h)).mono fun _ _ ⟨v, e, hv, hb⟩ => ⟨by rw [e]; exact congrArg _ hv, hb⟩
end Go.Proofs.Ytmfgdpbnnlmjhaa
