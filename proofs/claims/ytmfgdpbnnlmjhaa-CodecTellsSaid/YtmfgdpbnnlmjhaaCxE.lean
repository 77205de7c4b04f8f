/- The program's Read. -/
import Derived.Test.YtmfgdpbnnlmjhaaCxB
import Derived.Test.YtmfgdpbnnlmjhaaCxP
import Derived.Deep.RegionHeld
namespace Go.Proofs.Ytmfgdpbnnlmjhaa
open Go.RowKit

/-- numbers as cells -/
def intV (xs : List Int) : List Value := xs.map (Value.int .i64)
theorem intV_snoc (xs : List Int) (x : Int) : intV (xs ++ [x]) = intV xs ++ [.int .i64 x] := by simp [intV]
theorem infoI64 : (Try.prog.info? 2).map (fun i => (i.zero, i.size, i.bytes)) = some (some (.int .i64 0), 1, 8) := by kernel_rfl
/-- a slice of the call's own that holds numbers -/
def OwnI (w : World) (B : Nat) (v : Value) (xs : List Int) : Prop := w.ownsRow B 2 1 v xs.length (intV xs)
theorem OwnI.slice {w : World} {B : Nat} {v : Value} {xs : List Int} (h : OwnI w B v xs) : ∃ a c, v = .slice a xs.length c ∧ NumA w a xs := by
  obtain ⟨hl, h | ⟨g, cap, cur, rfl, hb, hg, hn, hc, hs, ht⟩⟩ := h
  · obtain ⟨rfl, h0⟩ := h
    exact ⟨none, 0, by rw [h0], .inl (List.eq_nil_of_length_eq_zero h0)⟩
  · refine ⟨_, _, rfl, .inr ⟨g, 0, rfl, fun j x e => ?_⟩⟩
    rw [Nat.zero_add, cell_of_row w g j cur 2 (0, 0) hg]
    have hj : j < xs.length := by
      rcases Nat.lt_or_ge j xs.length with q | q
      · exact q
      · rw [List.getElem?_eq_none q] at e; cases e
    have h1 : cur.toList[j]? = (intV xs)[j]? := by rw [← ht, List.getElem?_take, if_pos (by omega)]
    rw [← Array.getElem?_toList, h1]
    simp [intV, e]
theorem OwnI.up {w w' : World} {B : Nat} {v : Value} {xs : List Int} (h : OwnI w B v xs) (k : Below w.heap.size w w') : OwnI w' B v xs :=
  World.ownsRow.kept (row := none) h ⟨k.os, k.tape, k.output, k.size, fun i hi _ => k.block i hi⟩ (by cases e : v.ownBlock with
    | none => exact .inl rfl
    | some g => exact .inr (by simp))
theorem one_int (x : Int) : ∀ u ∈ [Value.int .i64 x], u.oneCell' = true := fun u hu => by simp at hu; subst hu; rfl
theorem cut_behind (a b : List UInt8) : (str (a ++ b)).extract a.length (str (a ++ b)).size = str b := by
  rw [← str_of ((str (a ++ b)).extract a.length (str (a ++ b)).size), Lib.extract_data, str_list, str_size]
  simp
/-- what Read answers -/
def RdR (w : World) (B : Nat) (v : Value) : Option (Nat × List Int) → Prop
  | some p => ∃ s, v = .tuple #[.agg #[.int .i64 (p.1 : Nat), s], .int .i64 0] ∧ OwnI w B s p.2
  | none => v = .tuple #[.agg #[.int .i64 0, .slice none 0 0], .int .i64 2]
/-- bytes from a place on -/
theorem rest_of (s : ByteArray) (k : Nat) : s.extract k s.size = str (s.data.toList.drop k) := by
  rw [← str_of (s.extract k s.size), Lib.extract_data, List.take_of_length_le (by rw [List.length_drop, list_size]; omega)]
theorem two_ahead (s : ByteArray) (h : 2 ≤ s.size) : s.data.toList = s[0] :: s[1] :: s.data.toList.drop 2 := by
  have h0 := data_at s 0 (by omega)
  have h1 := data_at s 1 (by omega)
  match hl : s.data.toList with
  | [] => rw [hl] at h0; cases h0
  | [x] => rw [hl] at h1; cases h1
  | x :: y :: r =>
    rw [hl] at h0 h1
    simp at h0 h1
    rw [h0, h1]; rfl
/-- what stands in memory while bytes are read -/
structure Rin (w wr : World) (k : Nat) (v : Value) (xs : List Int) : Prop where
  d : Has wr w.heap.size 24 #[.int .i64 0, .slice none 0 0]
  c : Has wr (w.heap.size + 1) 24 #[.int .i64 (k : Int), v]
  own : OwnI wr (w.heap.size + 2) v xs
  bel : Below w.heap.size w wr
  siz : w.heap.size + 2 ≤ wr.heap.size
theorem Rin.fresh (w : World) (k : Nat) : Rin w ((w.alloc (.cells #[.int .i64 0, .slice none 0 0] 24)).alloc (.cells #[.int .i64 (k : Int), .slice none 0 0] 24)).drew k (.slice none 0 0) [] where
  d := (Has.fresh w _ _).more _
  c := by
    have := Has.fresh (w.alloc (.cells #[.int .i64 0, .slice none 0 0] 24)) 24 #[.int .i64 (k : Int), .slice none 0 0]
    simp at this
    exact this
  own := World.ownsRow_nil _ _ _ _
  bel := (((Below.refl _ _).alloc (Nat.le_refl _) _).alloc (by simp) _).drew
  siz := by simp
theorem Rin.app {w wr w1 : World} {k : Nat} {v v' : Value} {xs : List Int} {n : Int} (h : Rin w wr k v xs) (g : (wr.alloc (.cells #[.int .i64 n] 2)).grownBy w1 v.ownBlock) (o : w1.ownsRow (w.heap.size + 2) 2 1 v' (xs.length + 1) (intV xs ++ [.int .i64 n])) :
    Has w1 (w.heap.size + 1) 24 #[.int .i64 (k : Int), v] ∧ Rin w (w1.setCell ⟨w.heap.size + 1, 1, none⟩ v') k v' (xs ++ [n]) := by
  have hne : ∀ j, j < w.heap.size + 2 → some j ≠ v.ownBlock := fun j hj e => by have := (h.own.lt j e.symm).1; omega
  have hs := h.siz
  have hd : Has w1 w.heap.size 24 #[.int .i64 0, .slice none 0 0] := (g.block _ (by simp; omega) (hne _ (by omega))).trans (h.d.more _)
  have hc : Has w1 (w.heap.size + 1) 24 #[.int .i64 (k : Int), v] := (g.block _ (by simp; omega) (hne _ (by omega))).trans (h.c.more _)
  have hz := g.size
  refine ⟨hc, hd.off (by simp) _, hc.put 1 v', ?_, ?_, ?_⟩
  · have : w1.ownsRow (w.heap.size + 2) 2 1 v' (xs ++ [n]).length (intV (xs ++ [n])) := by rw [intV_snoc, List.length_append]; exact o
    refine this.kept (row := some (w.heap.size + 1)) ⟨rfl, rfl, rfl, by simp [World.setCell], fun i _ hi => Below.heap_setCell _ _ _ _ (fun e => hi (by simp [e]))⟩ ?_
    cases e : v'.ownBlock with
    | none => exact .inl rfl
    | some j => exact .inr (fun q => by have := (o.lt j e).1; injection q; omega)
  · exact ((h.bel.alloc (by have := h.bel.size; omega) _).grown g (by simp; omega) (fun j e => by have := (h.own.lt j e).1; omega)).setCell (by simp) _
  · simp [World.setCell] at hz ⊢; omega
/-- two stores below leave it -/
theorem OwnI.off {w : World} {B : Nat} {v : Value} {xs : List Int} (h : OwnI w B v xs) {p : Addr} (hp : p.block < B) (x : Value) : OwnI (w.setCell p x) B v xs :=
  World.ownsRow.kept (row := some p.block) h ⟨rfl, rfl, rfl, by simp [World.setCell], fun i _ hi => Below.heap_setCell _ _ _ _ (fun e => hi (by simp [e]))⟩ (by
    cases e : v.ownBlock with
    | none => exact .inl rfl
    | some j => exact .inr (fun q => by have := (World.ownsRow.lt h j e).1; injection q; omega))
theorem OwnI.lower {w : World} {B B' : Nat} {v : Value} {xs : List Int} (h : OwnI w B v xs) (k : B' ≤ B) : OwnI w B' v xs := by
  obtain ⟨hl, h | ⟨g, cap, cur, e, hb, r⟩⟩ := h
  · exact ⟨hl, .inl h⟩
  · exact ⟨hl, .inr ⟨g, cap, cur, e, by omega, r⟩⟩
set_option maxRecDepth 100000 in
set_option maxHeartbeats 4000000 in
theorem read_ex (s : ByteArray) (w : World) (hs6 : s.size ≤ 1000000) :
    Calls Try.prog 10 #[.string s] w fun e w' => (∃ a v, Rd s.data.toList a ∧ e = .returned v ∧ RdR w' w.heap.size v a) ∧ Below w.heap.size w w' := by
  by_cases hs : s.size < 2
  · have HT : Hid (Rd s.data.toList none) := rd_short (by rw [list_size]; exact hs)
    have h1 : (s.size : Int) < 2 := by omega
    clear hs
    go_enter Try.func10, Try.ntmps10
    go_wp2
    exact bodyPost_ret (v := .tuple #[.agg #[.int .i64 0, .slice none 0 0], .int .i64 2]) (by simp [results, Try.results10, go_sem]) rfl ⟨⟨none, _, HT.out, rfl, rfl⟩, boxed _ _⟩
  · have hl0 : 0 < s.size := by omega
    have hl1 : 1 < s.size := by omega
    have e2 := two_ahead s (by omega)
    have hi1 : ¬ ((s.size : Int) < 2) := by omega
    by_cases hm : 64 < (s[1]'hl1).toNat
    · have HT : Hid (Rd s.data.toList none) := by show Rd s.data.toList none; rw [e2]; exact rd_many hm
      have h1 : (64 : Int) < ((s[1]'hl1).toNat : Int) := by omega
      clear hs e2
      go_enter Try.func10, Try.ntmps10
      go_wp2
      exact bodyPost_ret (v := .tuple #[.agg #[.int .i64 0, .slice none 0 0], .int .i64 2]) (by simp [results, Try.results10, go_sem]) rfl ⟨⟨none, _, HT.out, rfl, rfl⟩, boxed _ _⟩
    · have h1 : ¬ ((64 : Int) < ((s[1]'hl1).toNat : Int)) := by omega
      have hrest := rest_of s 2
      obtain ⟨A, hA⟩ : ∃ A, A = s[0]'hl0 := ⟨_, rfl⟩
      obtain ⟨M, hM⟩ : ∃ M, M = s[1]'hl1 := ⟨_, rfl⟩
      obtain ⟨L, hL⟩ : ∃ L, L = s.data.toList.drop 2 := ⟨_, rfl⟩
      obtain ⟨Y, hY⟩ : ∃ Y, Y = s.extract 2 s.size := ⟨_, rfl⟩
      rw [← hY, ← hL] at hrest
      have hi2 : (2 : Int) ≤ (s.size : Int) := by omega
      rw [← hA, ← hM, ← hL] at e2
      rw [← hM] at hm
      have HS := Lib.hid e2
      clear e2
      go_enter Try.func10, Try.ntmps10
      go_wp2_with fail
      have R0 : Hid (Rin w ((w.alloc (.cells #[.int .i64 0, .slice none 0 0] 24)).alloc (.cells #[.int .i64 (A.toNat : Int), .slice none 0 0] 24)).drew A.toNat (.slice none 0 0) []) := Rin.fresh w _
      have hw0 : IntKind.i64.wrap ((s[0]'hl0).toNat : Int) = (A.toNat : Int) := by
        have := (s[0]'hl0).toNat_lt
        rw [IntWalk.i64_in _ (by omega), hA]
      go_cut [2, 4, 5] (fun s2 s4 s5 wx => s2 = .pointer (some ⟨w.heap.size, 0, none⟩) ∧ s4 = .pointer (some ⟨w.heap.size + 1, 0, none⟩) ∧ s5 = .string Y ∧ Hid (Rin w wx A.toNat (.slice none 0 0) []))
      case first =>
        go_region_held (fun _ => True) (trivial) (fail)
        all_goals (rw [← hA] at *; go_wp2_with fail; go_meet; exact ⟨rfl, rfl, by rw [hY], R0⟩)
      case rest =>
        obtain ⟨rfl, rfl, rfl, R1⟩ := hcut
        clear R0 hw0 hA hL hY hs
        go_wp2_with fail
        go_loopw [5, 26] (fun l i wr => ∃ (k : Nat) (xs : List Int) (r : List UInt8) (v : Value), k ≤ M.toNat ∧ i = .int .u8 (k : Int) ∧ l = .string (str r) ∧ Hid (xs.length = k ∧ (∀ x ∈ xs, Am x) ∧ L = flat xs ++ r ∧ Rin w wr A.toNat v xs)) (fun _ i _ => 64 - (intOf i).toNat)
        case atStart => exact ⟨0, [], L, _, Nat.zero_le _, rfl, by rw [hrest], rfl, by simp, by simp [flat], R1.out⟩
        case round =>
          obtain ⟨k, xs, r, v, hk, rfl, rfl, HI⟩ := hrel
          by_cases hlt : k < M.toNat
          · have hki : (k : Int) < ((s[1]'hl1).toNat : Int) := by rw [← hM]; omega
            obtain ⟨a, ha⟩ := tk_ex r
            cases a with
            | none =>
              have HT : Hid (Rd s.data.toList none) := by
                show Rd s.data.toList none
                rw [HS.out, HI.out.2.2.1]
                exact rd_miss (by rw [HI.out.1]; exact hlt) ha
              have TC := Lib.hid (fun W => take_no r W ha)
              have HB := Lib.hid HI.out.2.2.2.bel
              have d0 : wr.cell? ⟨w.heap.size, 0, none⟩ = some (.int .i64 0) := HI.out.2.2.2.d.cell 0
              have d1 : wr.cell? ⟨w.heap.size, 1, none⟩ = some (.slice none 0 0) := HI.out.2.2.2.d.cell 1
              have f0 := HI.out.2.2.2.d.free 0
              have f1 := HI.out.2.2.2.d.free 1
              clear HI ha hm R1 hrest
              go_wp2_with fail
              refine (TC.out _).mono ?_
              rintro e w' ⟨rfl, rfl⟩
              go_wp2
              have e0 : ((wr.setCell ⟨w.heap.size, 0, none⟩ (.int .i64 0)).setCell ⟨w.heap.size, 1, none⟩ (.slice none 0 0)).cell? ⟨w.heap.size, 0, none⟩ = some (.int .i64 0) := cset (csame d0) (.inr (by omega))
              have e1 : ((wr.setCell ⟨w.heap.size, 0, none⟩ (.int .i64 0)).setCell ⟨w.heap.size, 1, none⟩ (.slice none 0 0)).cell? ⟨w.heap.size, 1, none⟩ = some (.slice none 0 0) := csame (cset d1 (.inr (by omega)))
              exact bodyPost_ret (v := .tuple #[.agg #[.int .i64 0, .slice none 0 0], .int .i64 2]) (by simp [results, Try.results10, go_sem, e0, e1]) rfl ⟨⟨none, _, HT.out, rfl, rfl⟩, (HB.out.setCell (Nat.le_refl _) _).setCell (Nat.le_refl _) _⟩
            | some n =>
              obtain ⟨hn, q, hq⟩ := ha
              have TC := Lib.hid (fun W => take_yes r n W ⟨hn, q, hq⟩)
              have hx : (str r).extract (nl n) (str r).size = str q := by rw [hq]; exact cut_behind _ _
              have hxi : (nl n : Int) ≤ ((str r).size : Int) := by
                rw [str_size, hq, List.length_append]
                show ((enc (fold n)).length : Int) ≤ _
                omega
              have HI2 := Lib.hid HI.out
              obtain ⟨X, hX⟩ : ∃ X, X = str r := ⟨_, rfl⟩
              obtain ⟨Z, hZ⟩ : ∃ Z, Z = str q := ⟨_, rfl⟩
              obtain ⟨u, hu⟩ : ∃ u, u = nl n := ⟨_, rfl⟩
              rw [← hX, ← hu] at TC
              rw [← hX, ← hZ, ← hu] at hx
              rw [← hX, ← hu] at hxi
              rw [← hX]
              have c1 : wr.cell? ⟨w.heap.size + 1, 1, none⟩ = some v := HI.out.2.2.2.c.cell 1
              have hown := HI.out.2.2.2.own
              unfold OwnI at hown
              have hsz := HI.out.2.2.2.siz
              have hxl := HI.out.1
              rw [hxl] at hown
              have HZ := Lib.hid hZ
              have HQ := Lib.hid hq
              have HN := Lib.hid hn
              obtain ⟨i0, hi, hz0, hz1, hz2⟩ := info_parts infoI64
              have hk64 : k < 64 := by omega
              clear hX hZ hu HI hq hn hm R1 hrest hxl
              go_wp2_with fail
              refine (TC.out _).mono ?_
              rintro e w' ⟨rfl, rfl⟩
              go_wp2_with (first | (at_builtin; refine wpList_append_own _ rfl _ _ 22 rfl (w.heap.size + 2) 2 i0 (.int .i64 0) 1 8 Try.underlying22 hi hz0 hz1 hz2 rfl (by decide) _ _ _ rfl (World.ownsRow.alloc hown _) ⟨wr.heap.size, 0, none⟩ 1 1 [.int .i64 n] rfl rfl (one_new _ _ _) (one_int _) ?c3 ?c4 ?c5 ?_))
              case c3 => unfold maxLen; omega
              case c4 => omega
              case c5 => (first | omega | (simp; omega))
              intro v' w1 hown' hgrow _
              obtain ⟨hc1, HR⟩ := HI2.out.2.2.2.app hgrow (by rw [HI2.out.1]; exact hown')
              have d1 := hc1.cell 1
              have f1 := hc1.free 1
              have HX := Lib.hid HR
              obtain ⟨a', c', e, _⟩ := HR.own.slice
              clear hown' hgrow hown hc1 HR
              rw [List.length_append, List.length_singleton] at e
              subst e
              go_wp2
              go_roundw
              case rel =>
                refine ⟨k + 1, xs ++ [n], q, _, by omega, by go_num, by rw [HZ.out], by rw [List.length_append, HI2.out.1]; rfl, ?_, ?_, HX.out⟩
                · intro x hx2
                  rcases List.mem_append.1 hx2 with z | z
                  · exact HI2.out.2.1 x z
                  · simp at z; rw [z]; exact HN.out
                · rw [HI2.out.2.2.1, HQ.out, flat_app, flat_one, List.append_assoc]
              case measure => simp [intOf]; omega
          · have hkM : k = M.toNat := by omega
            have hki : ¬ ((k : Int) < ((s[1]'hl1).toNat : Int)) := by rw [← hM]; omega
            have HB := Lib.hid HI.out.2.2.2.bel
            have d0 : wr.cell? ⟨w.heap.size, 0, none⟩ = some (.int .i64 0) := HI.out.2.2.2.d.cell 0
            have d1 : wr.cell? ⟨w.heap.size, 1, none⟩ = some (.slice none 0 0) := HI.out.2.2.2.d.cell 1
            have f0 := HI.out.2.2.2.d.free 0
            have f1 := HI.out.2.2.2.d.free 1
            by_cases hr : r = []
            · have HT : Hid (Rd s.data.toList (some (A.toNat, xs))) := by
                show Rd _ _
                have := HI.out.2.2.1
                rw [hr, List.append_nil] at this
                rw [HS.out, this]
                exact rd_hit (by rw [HI.out.1, hkM]) (by omega) HI.out.2.1
              have hrs : (str r).toList.isEmpty = true := by rw [Lib.toList_data, str_list, hr]; rfl
              clear hr
              have c0 : wr.cell? ⟨w.heap.size + 1, 0, none⟩ = some (.int .i64 (A.toNat : Int)) := HI.out.2.2.2.c.cell 0
              have c1 : wr.cell? ⟨w.heap.size + 1, 1, none⟩ = some v := HI.out.2.2.2.c.cell 1
              have HO := Lib.hid HI.out.2.2.2.own
              obtain ⟨a', c', e, _⟩ := HI.out.2.2.2.own.slice
              subst e
              clear HI hm R1 hrest hkM
              go_wp2
              have e0 : ((wr.setCell ⟨w.heap.size, 0, none⟩ (.int .i64 (A.toNat : Int))).setCell ⟨w.heap.size, 1, none⟩ (.slice a' xs.length c')).cell? ⟨w.heap.size, 0, none⟩ = some (.int .i64 (A.toNat : Int)) := cset (csame d0) (.inr (by omega))
              have e1 : ((wr.setCell ⟨w.heap.size, 0, none⟩ (.int .i64 (A.toNat : Int))).setCell ⟨w.heap.size, 1, none⟩ (.slice a' xs.length c')).cell? ⟨w.heap.size, 1, none⟩ = some (.slice a' xs.length c') := csame (cset d1 (.inr (by omega)))
              exact bodyPost_ret (v := .tuple #[.agg #[.int .i64 (A.toNat : Int), .slice a' xs.length c'], .int .i64 0]) (by simp [results, Try.results10, go_sem, e0, e1]) rfl ⟨⟨_, HT.out, _, rfl, _, rfl, ((HO.out.off (by simp) _).off (by simp) _).lower (by omega)⟩, (HB.out.setCell (Nat.le_refl _) _).setCell (Nat.le_refl _) _⟩
            · have HT : Hid (Rd s.data.toList none) := by
                show Rd s.data.toList none
                rw [HS.out, HI.out.2.2.1]
                exact rd_behind (by rw [HI.out.1, hkM]) hr
              have hrs : (str r).toList.isEmpty = false := by rw [Lib.toList_data, str_list]; simpa using hr
              clear HI hm R1 hrest hkM hr
              go_wp2
              have e0 : ((wr.setCell ⟨w.heap.size, 0, none⟩ (.int .i64 0)).setCell ⟨w.heap.size, 1, none⟩ (.slice none 0 0)).cell? ⟨w.heap.size, 0, none⟩ = some (.int .i64 0) := cset (csame d0) (.inr (by omega))
              have e1 : ((wr.setCell ⟨w.heap.size, 0, none⟩ (.int .i64 0)).setCell ⟨w.heap.size, 1, none⟩ (.slice none 0 0)).cell? ⟨w.heap.size, 1, none⟩ = some (.slice none 0 0) := csame (cset d1 (.inr (by omega)))
              exact bodyPost_ret (v := .tuple #[.agg #[.int .i64 0, .slice none 0 0], .int .i64 2]) (by simp [results, Try.results10, go_sem, e0, e1]) rfl ⟨⟨none, HT.out, _, rfl, rfl⟩, (HB.out.setCell (Nat.le_refl _) _).setCell (Nat.le_refl _) _⟩
theorem read_any (s : ByteArray) (a : Option (Nat × List Int)) (w : World) (hs6 : s.size ≤ 1000000) (h : Rd s.data.toList a) :
    Calls Try.prog 10 #[.string s] w fun e w' => ∃ v, e = .returned v ∧ RdR w' w.heap.size v a ∧ Below w.heap.size w w' :=
  (read_ex s w hs6).mono fun _ _ ⟨⟨_, v, h1, e, hr⟩, hb⟩ => ⟨v, e, by rw [← h1.one h]; exact hr, hb⟩
/-- the command of its bytes -/
theorem read_yes (r : List UInt8) (k : Nat) (xs : List Int) (w : World) (hr : r.length ≤ 1000000) (h : Rd r (some (k, xs))) :
    Calls Try.prog 10 #[.string (str r)] w fun e w' => ∃ a c, e = .returned (.tuple #[.agg #[.int .i64 (k : Nat), .slice a xs.length c], .int .i64 0]) ∧ NumA w' a xs ∧ Below w.heap.size w w' :=
  (read_any (str r) (some (k, xs)) w (by rw [str_size]; exact hr) (by rw [str_list]; exact h)).mono fun _ _ ⟨v, e, ⟨s, hv, ho⟩, hb⟩ => by
    obtain ⟨a, c, hs, hn⟩ := ho.slice
    exact ⟨a, c, by rw [e, hv, hs], hn, hb⟩
theorem read_no (r : List UInt8) (w : World) (hr : r.length ≤ 1000000) (h : Rd r none) :
    Calls Try.prog 10 #[.string (str r)] w fun e w' => e = .returned (.tuple #[.agg #[.int .i64 0, .slice none 0 0], .int .i64 2]) ∧ Below w.heap.size w w' :=
  (read_any (str r) none w (by rw [str_size]; exact hr) (by rw [str_list]; exact h)).mono fun _ _ ⟨v, e, hv, hb⟩ => ⟨by rw [e]; exact congrArg _ hv, hb⟩
end Go.Proofs.Ytmfgdpbnnlmjhaa
