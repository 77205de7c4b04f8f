/- The reference's Join. -/
import Derived.Test.YtjffcgimdffkoaaGreatDoorRcI
import Derived.Test.YtjffcgimdffkoaaGreatDoorRcP
namespace Go.Proofs.YtjffcgimdffkoaaGreatDoor
open Go.RowKit

theorem rows_take (xs : List ByteArray) {k : Nat} (h : k < xs.length) : (rows (xs.take (k + 1))).flatten = (rows (xs.take k)).flatten ++ (xs[k]).data.toList := by
  unfold rows
  rw [List.take_succ_eq_append_getElem h, List.map_append, List.flatten_append]
  simp

theorem rows_inj {xs ys : List ByteArray} (h : rows xs = rows ys) : xs = ys := by
  have := congrArg (List.map str) h
  unfold rows at this
  rw [List.map_map, List.map_map] at this
  have e : (str ∘ fun s : ByteArray => s.data.toList) = id := by funext s; exact str_of s
  rwa [e, List.map_id, List.map_id] at this
set_option maxRecDepth 100000 in
set_option maxHeartbeats 4000000 in
theorem rjoin_odd (b o c : Nat) (xs : List ByteArray) (w : World) (hS : Strs w b o xs) (hN : xs.length ≤ 100000) (h : ¬ All64 (rows xs)) (hsz : ∀ x ∈ xs, x.size ≤ maxLen) :
    Calls Tryz.prog 34 #[.slice (some ⟨b, o, none⟩) xs.length c] w fun e w' => e = .returned (.tuple #[.string ⟨#[]⟩, .int .i64 2]) ∧ Below w.heap.size w w' := by
  obtain ⟨N, hNe⟩ : ∃ N, N = xs.length := ⟨_, rfl⟩
  rw [← hNe] at hN ⊢
  have HS := Lib.hid (And.intro hS (And.intro hNe (And.intro h hsz)))
  clear hS hNe h hsz
  go_enter Tryz.func34, Tryz.ntmps34
  go_wp2
  go_loop [4, 5] (fun y i => ∃ (k : Nat) (S : ByteArray), k ≤ N ∧ Hid (All64 (rows (xs.take k)) ∧ S.size = 64 * k) ∧ i = .int .i64 (k : Int) ∧ y = .string S) (fun _ i => N - (intOf i).toNat)
  case atStart => exact ⟨0, _, Nat.zero_le _, ⟨by intro x hx; simp [rows] at hx, rfl⟩, rfl, rfl⟩
  case round =>
    obtain ⟨k, S, hk, HI, rfl, rfl⟩ := hrel
    by_cases hlt : k < N
    · have hkx : k < xs.length := by rw [← HS.out.2.1]; exact hlt
      obtain ⟨x, hx⟩ : ∃ x, x = xs[k] := ⟨_, rfl⟩
      have hc : w.cell? ⟨b, o + k, none⟩ = some (.string x) := by rw [hx]; exact HS.out.1.at hkx
      have hxs : x.size ≤ maxLen := by rw [hx]; exact HS.out.2.2.2 _ (List.getElem_mem hkx)
      unfold maxLen at hxs
      by_cases q : x.size = 64
      · have t0 : ((x.size : Int) != 64) = false := by simp; omega
        have q2 : ¬ (9223372036854775807 < S.size + x.size) := by rw [HI.out.2]; omega
        have HA : Hid (All64 (rows (xs.take (k + 1))) ∧ (S ++ x).size = 64 * (k + 1)) := by
          refine ⟨?_, by rw [app_size, HI.out.2, q]; omega⟩
          intro y hy
          unfold rows at hy
          rw [List.take_succ_eq_append_getElem hkx, List.map_append, List.mem_append] at hy
          rcases hy with hy | hy
          · exact HI.out.1 y hy
          · simp at hy; rw [hy, ← hx, Lib.size_eq] at *; first | exact q | (rw [← Lib.size_eq]; exact q)
        clear hx q HI
        go_wp2
        go_round
        case rel => exact ⟨k + 1, _, by omega, HA, by go_num, rfl⟩
        case measure => simp [intOf]; omega
      · have t0 : ((x.size : Int) != 64) = true := by simp; omega
        clear hx q HI
        go_wp2
        go_ret2
        exact ⟨rfl, Below.refl _ _⟩
    · exfalso
      have hkn : k = N := by omega
      apply HS.out.2.2.1
      have := HI.out.1
      rwa [hkn, HS.out.2.1, List.take_length] at this

set_option maxRecDepth 100000 in
set_option maxHeartbeats 1000000 in
theorem rjoin_none (a : Option Addr) (c : Nat) (w : World) :
    Calls Tryz.prog 34 #[.slice a 0 c] w fun e w' => e = .returned (.tuple #[.string ⟨#[]⟩, .int .i64 2]) ∧ Below w.heap.size w w' := by
  go_enter Tryz.func34, Tryz.ntmps34
  go_wp2
  go_loop [4, 5] (fun y i => i = .int .i64 0 ∧ y = .string ⟨#[]⟩) (fun _ _ => 0)
  case atStart => exact ⟨rfl, rfl⟩
  case round =>
    obtain ⟨rfl, rfl⟩ := hrel
    go_wp2
    go_ret2
    exact ⟨rfl, Below.refl _ _⟩

set_option maxRecDepth 100000 in
set_option maxHeartbeats 8000000 in
theorem rjoin_64 (b o c : Nat) (xs : List ByteArray) (x0 : ByteArray) (w : World) (hS : Strs w b o xs) (hx : xs[0]? = some x0) (hN : xs.length ≤ 100000) (h : All64 (rows xs)) :
    Calls Tryz.prog 34 #[.slice (some ⟨b, o, none⟩) xs.length c] w fun e w' => e = .returned (joinV (joinA (rows xs))) ∧ Below w.heap.size w w' := by
  have hlen : (rows xs).length = xs.length := by simp [rows]
  have h0 : 0 < xs.length := by
    rcases Nat.eq_zero_or_pos xs.length with q | q
    · rw [List.getElem?_eq_none (by omega)] at hx; cases hx
    · exact q
  have hne : rows xs ≠ [] := by intro q; rw [q] at hlen; simp at hlen; omega
  have hJ := joinA_F h hne
  rw [hlen] at hJ
  have hfl := h.len
  rw [hlen] at hfl
  have hhd : (rows xs).flatten.take 64 = x0.data.toList := by
    have := h.at 0 (by omega)
    unfold blkL at this
    rw [Nat.mul_zero, List.drop_zero] at this
    rw [← this]
    cases xs with
    | nil => simp at hx
    | cons x r => simp at hx; rw [hx]; rfl
  have hc0 := hS 0 x0 hx
  rw [Nat.add_zero] at hc0
  obtain ⟨⟨m, k, e⟩, hh⟩ : ∃ a, a = headA x0.data.toList := ⟨_, rfl⟩
  have HH : Hid (∀ W : World, Calls Tryz.prog 32 #[.string x0] W fun r w' => r = .returned (.tuple #[.bool m, .int .i64 (k : Int), .int .i64 (e : Int)]) ∧ ∃ n, w' = W.drewN n) := fun W => by have := rhead_any x0 W; rw [← hh] at this; exact this
  have hk : k ≤ 40000 := by have := headA_le x0.data.toList; rw [← hh] at this; exact this
  obtain ⟨N, hNe⟩ : ∃ N, N = xs.length := ⟨_, rfl⟩
  rw [← hNe] at hN h0 hJ hfl ⊢
  unfold joinF at hJ
  rw [hhd, ← hh] at hJ
  have HB : Hid (∀ W : World, Calls Tryz.prog 33 #[.int .i64 (k : Int)] W fun r w' => r = .returned (.int .i64 (nbI (k : Int))) ∧ W = w') := fun W => rblk_any (k : Int) W
  have hnb : nbI (k : Int) = ((nb k : Nat) : Int) := by unfold nbI nb; rw [if_neg (by omega)]; omega
  rw [hnb] at HB
  have HS := Lib.hid (And.intro hS (And.intro hNe (And.intro h (And.intro hfl (And.intro hJ hhd)))))
  have HHH := Lib.hid hh
  clear hS hNe h hfl hJ hhd hlen hne hh hx hnb
  go_enter Tryz.func34, Tryz.ntmps34
  go_wp2
  go_loop [4, 5] (fun y i => ∃ (k : Nat) (S : ByteArray), k ≤ N ∧ Hid (S = str (rows (xs.take k)).flatten ∧ S.size = 64 * k) ∧ i = .int .i64 (k : Int) ∧ y = .string S) (fun _ i => N - (intOf i).toNat)
  case atStart => exact ⟨0, _, Nat.zero_le _, ⟨rfl, rfl⟩, rfl, rfl⟩
  case round =>
    obtain ⟨i, S, hi, HI, rfl, rfl⟩ := hrel
    by_cases hlt : i < N
    · have hkx : i < xs.length := by rw [← HS.out.2.1]; exact hlt
      obtain ⟨x, hx⟩ : ∃ x, x = xs[i] := ⟨_, rfl⟩
      have hc : w.cell? ⟨b, o + i, none⟩ = some (.string x) := by rw [hx]; exact HS.out.1.at hkx
      have q : x.size = 64 := by
        have := HS.out.2.2.1 x.data.toList (by unfold rows; rw [hx]; exact List.mem_map_of_mem (List.getElem_mem hkx))
        rwa [list_size] at this
      have t0 : ((x.size : Int) != 64) = false := by simp; omega
      have q2 : ¬ (9223372036854775807 < S.size + x.size) := by rw [HI.out.2]; omega
      have HA : Hid (S ++ x = str (rows (xs.take (i + 1))).flatten ∧ (S ++ x).size = 64 * (i + 1)) := by
        refine ⟨?_, by rw [app_size, HI.out.2, q]; omega⟩
        rw [rows_take xs hkx, HI.out.1, ← hx, ← str_app, str_of]
      clear hx q HI
      go_wp2
      go_round
      case rel => exact ⟨i + 1, _, by omega, HA, by go_num, rfl⟩
      case measure => simp [intOf]; omega
    · have hin : i = N := by omega
      have HSS : Hid (S = str (rows xs).flatten) := by
        have := HI.out.1
        rwa [hin, HS.out.2.1, List.take_length] at this
      have sS : S.size = 64 * N := by rw [HI.out.2, hin]
      have hemp : ¬ S.toList = [] := by
        rw [Lib.toList_data]
        intro q
        have := list_size S
        rw [q] at this
        simp at this
        omega
      have hemp2 : S.toList.isEmpty = false := by
        rw [Bool.eq_false_iff]
        intro q
        exact hemp (by simpa using q)
      have SS := Lib.hid sS
      have hS7 : 64 ≤ S.size := by omega
      have hSm : S.size ≤ 6400000 := by omega
      clear HI sS hin
      go_wp2_with fail
      refine (HH.out w).mono ?_
      rintro r w' ⟨rfl, q, rfl⟩
      obtain ⟨W0, hW⟩ : ∃ W0, W0 = w.drewN q := ⟨_, rfl⟩
      have hB0 := Lib.hid (show Below w.heap.size w W0 by rw [hW]; exact blw (Below.refl _ _) q)
      rw [← hW]
      clear hW
      by_cases he : e = 0
      · subst he
        cases m
        · have HE : Hid (joinV (joinA (rows xs)) = .tuple #[.string ⟨#[]⟩, .int .i64 2]) := by
            show joinV (joinA (rows xs)) = _
            rw [HS.out.2.2.2.2.1, if_neg (by simp), if_pos (.inl rfl)]; rfl
          go_wp2
          go_ret2
          exact ⟨by rw [HE.out]; rfl, hB0.out⟩
        · by_cases hn : N = nb k
          · obtain ⟨B, hB⟩ : ∃ B, B = ((rows xs).flatten.drop 7).take k := ⟨_, rfl⟩
            have hHE : joinA (rows xs) = if xs = layX B true then (B, 0) else ([], 8) := by
              have hhd := HS.out.2.2.2.2.2
              have hp := head_parts (S := (rows xs).flatten) (k := k) (by rw [HS.out.2.2.2.1]; omega) (by rw [hhd]; exact HHH.out.symm)
              have hw := whole_iff (S := (rows xs).flatten) (k := k) (by rw [HS.out.2.2.2.1, hn]) hp.1 hp.2
              rw [← hB] at hw
              have hBl : B.length = k := by rw [hB, List.length_take, List.length_drop, HS.out.2.2.2.1, hn]; have := nb_ge k; omega
              have hr : xs = layX B true ↔ rows xs = layL B true := by
                rw [← rows_lay]
                exact ⟨fun e => by rw [← e], fun e => rows_inj e⟩
              have hl : (rows xs).length = (layL B true).length := by rw [layL_len, hBl, ← hn, HS.out.2.1]; simp [rows]
              have ha := all_eq HS.out.2.2.1 (layL_all B true) hl
              rw [layL_flat] at ha
              rw [HS.out.2.2.2.2.1, if_neg (by simp), if_neg (fun q => q.elim (fun z => by cases z) (fun z => z hn)), ← hB]
              by_cases q : xs = layX B true
              · have := hw.mp (ha.mp (hr.mp q))
                rw [if_pos q, if_neg (fun z => z.elim (fun y => y this.1) (fun y => by rw [this.2] at y; cases y))]
              · rw [if_neg q, if_pos]
                by_cases q1 : num (((rows xs).flatten.drop 3).take 4) = crc B
                · refine .inr ?_
                  rw [Bool.eq_false_iff]
                  intro q2
                  exact q (hr.mpr (ha.mpr (hw.mpr ⟨q1, q2⟩)))
                · exact .inl q1
            have HE := Lib.hid hHE
            have hBl : B.length = k := by rw [hB, List.length_take, List.length_drop, HS.out.2.2.2.1, hn]; have := nb_ge k; omega
            have hkS : 7 + k ≤ S.size := by rw [SS.out, hn]; have := nb_ge k; omega
            have e1 : S.extract 7 (7 + k) = str B := by rw [ext_str, HSS.out, str_list, show 7 + k - 7 = k by omega, hB]
            obtain ⟨T, hT⟩ : ∃ T, T = str B := ⟨_, rfl⟩
            have hT4 : T.size ≤ 40000 := by rw [hT, str_size, hBl]; exact hk
            have HL : Hid (∀ W : World, Calls Tryz.prog 49 #[.string T, .bool true] W fun r w' => ∃ v, r = .returned (.tuple #[v, .int .i64 0]) ∧ w'.ownsRow W.heap.size 9 1 v N ((layX B true).map Value.string) ∧ Below W.heap.size W w') := fun W => by
              have := rlay_any T true W hT4
              rw [hT, str_list, str_size, hBl, ← hn] at this
              rw [hT]
              exact this
            rw [← hT] at e1
            have E1 := Lib.hid e1
            have HT := Lib.hid hT
            have HBl := Lib.hid hBl
            have hlay : Hid ((layX B true).length = N) := by show _ = _; rw [lay_len, hBl, hn]
            have hnk : ((nb k : Nat) : Int) = (N : Int) := by rw [hn]
            rw [hnk] at HB
            clear hB hHE hBl hT hn hnk hT4
            go_wp2_with fail
            refine (HB.out W0).mono ?_
            rintro r w' ⟨rfl, rfl⟩
            go_wp2_with fail
            refine (HL.out W0).mono ?_
            rintro r W1 ⟨v, rfl, hown, hb1⟩
            obtain ⟨g, c2, rfl, hc2, hgB, hSt⟩ := own_strs hown h0
            have hB1 := Lib.hid (up2 hB0.out hb1)
            have HX := Lib.hid (And.intro (HS.out.1.up hB1.out) hSt)
            clear hown hb1 hc2 hgB hSt
            go_wp2_with fail
            go_loopw [11] (fun vi wr => ∃ i : Nat, i ≤ N ∧ vi = .int .i64 (i : Int) ∧ Hid ((∃ n, wr = W1.drewN n) ∧ xs.take i = (layX B true).take i)) (fun vi _ => N - (intOf vi).toNat)
            case atStart => exact ⟨0, Nat.zero_le _, rfl, ⟨0, rfl⟩, rfl⟩
            case round =>
              clear hc0
              obtain ⟨i, hi, rfl, HI⟩ := hrel
              by_cases hlt : i < N
              · have hkx : i < xs.length := by rw [← HS.out.2.1]; exact hlt
                have hky : i < (layX B true).length := by rw [hlay.out]; exact hlt
                obtain ⟨x, hx⟩ : ∃ x, x = xs[i] := ⟨_, rfl⟩
                obtain ⟨y, hy⟩ : ∃ y, y = (layX B true)[i] := ⟨_, rfl⟩
                have hcx : wr.cell? ⟨b, o + i, none⟩ = some (.string x) := by obtain ⟨n, e⟩ := HI.out.1; rw [e, hx]; exact (HX.out.1.drewN n).at hkx
                have hcy : wr.cell? ⟨g, i, none⟩ = some (.string y) := by
                  obtain ⟨n, e⟩ := HI.out.1; rw [e, hy]
                  have := (HX.out.2.drewN n).at hky
                  rwa [Nat.zero_add] at this
                by_cases q : x = y
                · have hq : (x.toList == y.toList) = true := by rw [strs_eq, decide_eq_true q]
                  have HTk : Hid (xs.take (i + 1) = (layX B true).take (i + 1)) := by
                    show xs.take (i + 1) = (layX B true).take (i + 1)
                    rw [List.take_succ_eq_append_getElem hkx, List.take_succ_eq_append_getElem hky, ← hx, ← hy, HI.out.2, q]
                  have HD := Lib.hid HI.out.1
                  clear hx hy HI q
                  go_wp2_with fail
                  go_quiet (fail)
                  go_wp2
                  go_roundw
                  case rel => exact ⟨i + 1, by omega, by go_num, by obtain ⟨n, e⟩ := HD.out; exact ⟨n + nq, by rw [e, drewN_two]⟩, HTk.out⟩
                  case measure => simp [intOf]; omega
                · have hq : (x.toList == y.toList) = false := by rw [strs_eq, decide_eq_false q]
                  have HF : Hid (joinV (joinA (rows xs)) = .tuple #[.string ⟨#[]⟩, .int .i64 8]) := by
                    show joinV (joinA (rows xs)) = _
                    rw [HE.out, if_neg]
                    · rfl
                    · intro e
                      apply q
                      rw [hx, hy]
                      simp only [← e]
                  have HD := Lib.hid HI.out.1
                  clear hx hy HI q
                  go_wp2_with fail
                  go_quiet (fail)
                  go_wp2
                  go_ret2
                  exact ⟨by rw [HF.out]; rfl, by obtain ⟨n, e⟩ := HD.out; rw [e]; exact blw (blw hB1.out n) nq⟩
              · have HF : Hid (joinV (joinA (rows xs)) = .tuple #[.string (S.extract 7 (7 + k)), .int .i64 0]) := by
                  show joinV (joinA (rows xs)) = _
                  have := HI.out.2
                  rw [List.take_of_length_le (by rw [← HS.out.2.1]; omega), List.take_of_length_le (by rw [hlay.out]; omega)] at this
                  rw [HE.out, if_pos this, E1.out, HT.out]
                  rfl
                have HD := Lib.hid HI.out.1
                clear HI
                go_wp2
                go_ret2
                exact ⟨by rw [HF.out]; rfl, by obtain ⟨n, e⟩ := HD.out; rw [e]; exact blw hB1.out n⟩
          · have HE : Hid (joinV (joinA (rows xs)) = .tuple #[.string ⟨#[]⟩, .int .i64 2]) := by
              show joinV (joinA (rows xs)) = _
              rw [HS.out.2.2.2.2.1, if_neg (by simp), if_pos (.inr hn)]; rfl
            have hne : ((N : Int) != ((nb k : Nat) : Int)) = true := by simp; omega
            clear hn
            go_wp2_with fail
            refine (HB.out W0).mono ?_
            rintro r w' ⟨rfl, rfl⟩
            go_wp2
            go_ret2
            exact ⟨by rw [HE.out]; rfl, hB0.out⟩
      · have HE : Hid (joinV (joinA (rows xs)) = .tuple #[.string ⟨#[]⟩, .int .i64 (e : Int)]) := by
          show joinV (joinA (rows xs)) = _
          rw [HS.out.2.2.2.2.1, if_pos he]; rfl
        have hne : ((e : Int) != 0) = true := by simp; omega
        clear he
        go_wp2
        go_ret2
        exact ⟨by rw [HE.out]; rfl, hB0.out⟩
theorem rjoin_any (b o c : Nat) (xs : List ByteArray) (w : World) (hS : Strs w b o xs) (hN : xs.length ≤ 100000) (hsz : ∀ x ∈ xs, x.size ≤ maxLen) :
    Calls Tryz.prog 34 #[.slice (some ⟨b, o, none⟩) xs.length c] w fun r w' => r = .returned (joinV (joinA (rows xs))) ∧ Below w.heap.size w w' := by
  cases hxs : xs[0]? with
  | none =>
    have h0 : xs = [] := by
      cases xs with
      | nil => rfl
      | cons x r => simp at hxs
    subst h0
    exact rjoin_none (some ⟨b, o, none⟩) c w
  | some x0 =>
    by_cases h : All64 (rows xs)
    · exact rjoin_64 b o c xs x0 w hS hxs hN h
    · have hj : joinA (rows xs) = ([], 2) := by
        unfold joinA
        rw [if_pos (.inr (by
          rw [← Bool.not_eq_false]
          exact fun q => h ((all_any _).mpr q)))]
      rw [hj]
      exact rjoin_odd b o c xs w hS hN h hsz
end Go.Proofs.YtjffcgimdffkoaaGreatDoor
