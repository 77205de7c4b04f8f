/- The bytes of blocks: the check, and what is behind. -/
import Derived.Test.YtjffcgimdffkoaaGreatDoorRcE
namespace Go.Proofs.YtjffcgimdffkoaaGreatDoor
open Go.RowKit

theorem flat_len (xs : List ByteArray) (h : (rows xs).any (fun x => x.length != 64) = false) : (rows xs).flatten.length = 64 * xs.length := by
  induction xs with
  | nil => rfl
  | cons x r ih =>
    simp only [rows, List.map_cons, List.any_cons, Bool.or_eq_false_iff] at h
    have := ih h.2
    simp only [rows] at this
    have hx : x.data.toList.length = 64 := by simpa using h.1
    simp only [rows, List.map_cons, List.flatten_cons, List.length_append, List.length_cons, this, hx]
    omega

def deepV : Bool → Bool → ByteArray → Value
  | false, true, B => .tuple #[.string B, .int .i64 0]
  | _, _, _ => .tuple #[.string ⟨#[]⟩, .int .i64 8]
set_option maxHeartbeats 4000000 in
theorem join_deep (b o c : Nat) (xs : List ByteArray) (x0 : ByteArray) (w : World) (hS : Strs w b o xs) (hx : xs[0]? = some x0) (hN : xs.length ≤ 100000) (hcap : xs.length ≤ c) (h : (rows xs).any (fun x => x.length != 64) = false) (hT : Tb w)
    (k : Nat) (hh : headA x0.data.toList = (true, k, 0)) (hk : k ≤ 40000) (hn : xs.length = nb k)
    (ok zz : Bool) (hok : (num (((rows xs).flatten.drop 3).take 4) != crc (((rows xs).flatten.drop 7).take k)) = ok) (hzz : zerosB ((rows xs).flatten.drop (7 + k)) = zz) :
    Calls Tryz.prog 55 #[.slice (some ⟨b, o, none⟩) xs.length c] w fun r w' => r = .returned (deepV ok zz (str (((rows xs).flatten.drop 7).take k))) ∧ Below w.heap.size w w' := by
  have HC := Lib.hid (cont_any b o c xs w hS (by omega))
  rw [h] at HC
  have h0 : 0 < xs.length := by
    rcases Nat.eq_zero_or_pos xs.length with q | q
    · rw [List.getElem?_eq_none (by omega)] at hx; cases hx
    · exact q
  have HH : Hid (∀ W : World, Calls Tryz.prog 53 #[.string x0] W fun r w' => r = .returned (.tuple #[.bool true, .int .i64 (k : Int), .int .i64 0]) ∧ W = w') := fun W => by have := head_any x0 W; rw [hh] at this; exact this
  have hc := hS 0 x0 hx
  rw [Nat.add_zero] at hc
  have hbw : b < w.heap.size := World.block_lt_of_cell? _ _ hc
  have hfl := flat_len xs h
  obtain ⟨S, hSd⟩ : ∃ S, S = str (rows xs).flatten := ⟨_, rfl⟩
  have sS : S.size = 64 * xs.length := by rw [hSd, str_size, hfl]
  have HJ : Hid (∀ W : World, Strs W b o xs → b < W.heap.size → Calls Tryz.prog 74 #[.slice (some ⟨b, o, none⟩) xs.length c, .string ⟨#[]⟩] W fun r w' => r = .returned (.string S) ∧ Below W.heap.size W w') := fun W hW hbW => by
    have := Tryz.strings_Join b o c xs ⟨#[]⟩ W hW hbW (by omega) hcap (by
      rw [show (⟨#[]⟩ : ByteArray).data.toList = [] by rfl, join_flat]
      show ((rows xs).flatten).length ≤ _
      omega)
    rw [show (⟨#[]⟩ : ByteArray).data.toList = [] by rfl, join_flat] at this
    rw [hSd]
    exact this
  obtain ⟨N, hNe⟩ : ∃ N, N = xs.length := ⟨_, rfl⟩
  have HS := Lib.hid hS
  rw [← hNe] at HC h0 hN hn sS HJ ⊢
  have hMI : nbI (k : Int) = (N : Int) := by rw [hn]; unfold nbI nb; rw [if_neg (by omega)]; omega
  have HB : Hid (∀ W : World, Calls Tryz.prog 36 #[.int .i64 (k : Int)] W fun r w' => r = .returned (.int .i64 (N : Int)) ∧ W = w') := fun W => by have := blk_any (k : Int) W; rw [hMI] at this; exact this
  have hkS : 7 + k ≤ S.size := by rw [sS, hn]; have := nb_ge k; omega
  have hSm : S.size ≤ 6400000 := by omega
  have h7 : 7 ≤ S.size := by omega
  have lS : S.data.toList = (rows xs).flatten := by rw [hSd, str_list]
  have e1 : S.extract 7 (7 + k) = str (((rows xs).flatten.drop 7).take k) := by rw [ext_str, lS, show 7 + k - 7 = k by omega]
  have e2 : S.extract (7 + k) S.size = str ((rows xs).flatten.drop (7 + k)) := by
    rw [ext_str, lS, List.take_of_length_le]
    rw [List.length_drop, hfl, sS]; omega
  have e3 : (S.extract 3 7).data.toList = ((rows xs).flatten.drop 3).take 4 := by rw [ext_list, lS]
  have HM : Hid (∀ W : World, Calls Tryz.prog 71 #[.string (S.extract 3 7)] W fun r w' => r = .returned (.int .u32 ((num (((rows xs).flatten.drop 3).take 4) : Nat) : Int)) ∧ W = w') := fun W => by have := num_any (S.extract 3 7) W (by simp; omega); rw [e3] at this; exact this
  obtain ⟨B, hB⟩ : ∃ B, B = str (((rows xs).flatten.drop 7).take k) := ⟨_, rfl⟩
  obtain ⟨Z, hZ⟩ : ∃ Z, Z = str ((rows xs).flatten.drop (7 + k)) := ⟨_, rfl⟩
  rw [← hB] at e1 ⊢
  rw [← hZ] at e2
  have HK : Hid (∀ W : World, Tb W → Calls Tryz.prog 75 #[.string B] W fun r w' => r = .returned (.int .u32 ((crc (((rows xs).flatten.drop 7).take k) : Nat) : Int)) ∧ W = w') := fun W q => by
    have := chk_any B W (by rw [hB, str_size, List.length_take]; unfold maxLen; omega) q
    rw [hB, str_list] at this
    rw [hB]
    exact this
  have sZ : Z.size ≤ 6400000 := by rw [hZ, str_size, List.length_drop, hfl]; omega
  have HZ : Hid (∀ W : World, ∃ v : ByteArray, (v.toList.isEmpty = zz) ∧ Calls Tryz.prog 76 #[.string Z, .string ⟨#[0]⟩] W fun r w' => r = .returned (.string v) ∧ ∃ q, w' = W.drewN q) := fun W => by
    refine ⟨⟨(Lib.trimB Z.data.toList 0).toArray⟩, ?_, ?_⟩
    · rw [Lib.toList_data, hZ, str_list, ← hzz, Bool.eq_iff_iff, ← trim_zero]
      simp
    · refine (Tryz.strings_Trim_one Z 0 (by decide) W (by omega)).mono fun r w' ⟨a, d⟩ => ⟨a, ?_⟩
      rcases d with d | d
      · exact ⟨0, d⟩
      · exact ⟨1, d⟩
  obtain ⟨n1, hn1⟩ : ∃ n1, n1 = num (((rows xs).flatten.drop 3).take 4) := ⟨_, rfl⟩
  obtain ⟨n2, hn2⟩ : ∃ n2, n2 = crc (((rows xs).flatten.drop 7).take k) := ⟨_, rfl⟩
  rw [← hn1] at HM hok
  rw [← hn2] at HK hok
  have hok' : ((n1 : Int) != (n2 : Int)) = ok := by rw [← hok, Bool.eq_iff_iff]; simp; omega
  have HT := Lib.hid hT
  have BZ := Lib.hid (And.intro hB hZ)
  clear sS h hS hNe hx hh hn hMI lS hSd hfl hB hZ hn1 hn2 hok hzz hT e3
  go_enter Tryz.func55, Tryz.ntmps55
  go_wp2_with fail
  refine HC.out.mono ?_
  rintro r w' ⟨rfl, q, rfl⟩
  obtain ⟨W0, hW⟩ : ∃ W0, W0 = w.drewN q := ⟨_, rfl⟩
  have hc0 : W0.cell? ⟨b, o, none⟩ = some (.string x0) := by rw [hW]; simpa using hc
  have hB0 := Lib.hid (show Below w.heap.size w W0 by rw [hW]; exact blw (Below.refl _ _) q)
  rw [← hW]
  clear hW hc
  go_wp2_with fail
  refine (HH.out W0).mono ?_
  rintro r w' ⟨rfl, rfl⟩
  go_wp2_with fail
  refine (HB.out W0).mono ?_
  rintro r w' ⟨rfl, rfl⟩
  go_wp2_with fail
  refine (HJ.out W0 (HS.out.up hB0.out) (Nat.lt_of_lt_of_le hbw hB0.out.size)).mono ?_
  rintro r W1 ⟨rfl, hb1⟩
  have hB1 := Lib.hid (up2 hB0.out hb1)
  clear hb1 hc0
  go_wp2_with fail
  have w0 : IntKind.i64.wrap (7 + (k : Int)) = 7 + (k : Int) := IntWalk.i64_in _ (by omega)
  have w1 : (7 + (k : Int)).toNat = 7 + k := by omega
  have w2 : 0 ≤ 7 + (k : Int) := by omega
  go_quiet (fail)
  obtain ⟨W2, hW⟩ : ∃ W2, W2 = W1.drewN nq := ⟨_, rfl⟩
  have hB2 := Lib.hid (show Below w.heap.size w W2 by rw [hW]; exact blw hB1.out nq)
  rw [← hW]
  clear hW hB1 w0 w1 w2 e1 e2
  go_wp2_with fail
  refine (HM.out W2).mono ?_
  rintro r w' ⟨rfl, rfl⟩
  go_wp2_with fail
  refine (HK.out W2 (HT.out.up hB2.out)).mono ?_
  rintro r w' ⟨rfl, rfl⟩
  cases ok
  · go_wp2_with fail
    obtain ⟨v, hv, hcall⟩ := HZ.out W2
    refine hcall.mono ?_
    rintro r w' ⟨rfl, q3, rfl⟩
    have hB3 := Lib.hid (blw hB2.out q3)
    clear hcall
    cases zz
    · go_wp2
      go_ret2
      exact ⟨rfl, hB3.out⟩
    · go_wp2
      go_ret2
      exact ⟨rfl, hB3.out⟩
  · go_wp2
    go_ret2
    exact ⟨rfl, hB2.out⟩

theorem headA_le (l : List UInt8) : (headA l).2.1 ≤ 40000 := by
  unfold headA
  repeat' split
  all_goals simp only
  all_goals omega
theorem join_any (b o c : Nat) (xs : List ByteArray) (w : World) (hS : Strs w b o xs) (hN : xs.length ≤ 100000) (hcap : xs.length ≤ c) (hT : Tb w) :
    Calls Tryz.prog 55 #[.slice (some ⟨b, o, none⟩) xs.length c] w fun r w' => r = .returned (joinV (joinA (rows xs))) ∧ Below w.heap.size w w' := by
  cases hxs : xs[0]? with
  | none =>
    have h0 : xs = [] := by
      cases xs with
      | nil => rfl
      | cons x r => simp at hxs
    subst h0
    exact (join_none (some ⟨b, o, none⟩) c w).mono fun _ _ ⟨a, d⟩ => ⟨a, by rw [← d]; exact Below.refl _ _⟩
  | some x0 =>
    have h0 : 0 < xs.length := by
      rcases Nat.eq_zero_or_pos xs.length with q | q
      · rw [List.getElem?_eq_none (by omega)] at hxs; cases hxs
      · exact q
    have hne : rows xs ≠ [] := by intro q; have := congrArg List.length q; simp [rows] at this; rw [this] at h0; simp at h0
    have hhd : (rows xs).headD [] = x0.data.toList := by
      cases xs with
      | nil => simp at hxs
      | cons x r => simp at hxs; rw [hxs]; rfl
    have hlen : (rows xs).length = xs.length := by simp [rows]
    cases h : (rows xs).any (fun x => x.length != 64) with
    | true =>
      rw [show joinA (rows xs) = ([], 2) by unfold joinA; rw [if_pos (.inr h)]]
      exact join_odd b o c xs w hS h0 hN h
    | false =>
      have hno : ¬ (rows xs = [] ∨ (rows xs).any (fun x => x.length != 64) = true) := by rw [h]; exact fun q => q.elim hne (fun z => by cases z)
      obtain ⟨⟨m, k, e⟩, hh⟩ : ∃ a, a = headA x0.data.toList := ⟨_, rfl⟩
      have hk : k ≤ 40000 := by have := headA_le x0.data.toList; rw [← hh] at this; exact this
      by_cases he : e = 0
      · subst he
        cases m with
        | false =>
          rw [show joinA (rows xs) = ([], 2) by unfold joinA; rw [if_neg hno, hhd, ← hh, if_neg (by simp), if_pos (.inl rfl)]]
          exact join_idle b o c xs x0 w hS hxs hN h k hh.symm
        | true =>
          by_cases hn : xs.length = nb k
          · have hd := join_deep b o c xs x0 w hS hxs hN hcap h hT k hh.symm hk hn _ _ rfl rfl
            have hnn : ¬ (true = false ∨ (rows xs).length ≠ nb k) := by rw [hlen]; exact fun q => q.elim (fun z => by cases z) (fun z => z hn)
            have he : joinV (joinA (rows xs)) = deepV (num (((rows xs).flatten.drop 3).take 4) != crc (((rows xs).flatten.drop 7).take k)) (zerosB ((rows xs).flatten.drop (7 + k))) (str (((rows xs).flatten.drop 7).take k)) := by
              unfold joinA
              rw [if_neg hno, hhd, ← hh, if_neg (by simp), if_neg hnn]
              by_cases q1 : num (((rows xs).flatten.drop 3).take 4) = crc (((rows xs).flatten.drop 7).take k)
              · rw [show (num (((rows xs).flatten.drop 3).take 4) != crc (((rows xs).flatten.drop 7).take k)) = false by simp [q1]]
                cases q2 : zerosB ((rows xs).flatten.drop (7 + k)) with
                | false => rw [if_pos (.inr rfl)]; rfl
                | true => rw [if_neg (fun q => q.elim (fun z => z q1) (fun z => by cases z))]; rfl
              · rw [show (num (((rows xs).flatten.drop 3).take 4) != crc (((rows xs).flatten.drop 7).take k)) = true by simp [q1], if_pos (.inl q1)]; rfl
            rw [he]
            exact hd
          · rw [show joinA (rows xs) = ([], 2) by unfold joinA; rw [if_neg hno, hhd, ← hh, if_neg (by simp), if_pos (.inr (by rw [hlen]; exact hn))]]
            exact join_many b o c xs x0 w hS hxs hN h k hh.symm hk hn
      · rw [show joinA (rows xs) = ([], e) by unfold joinA; rw [if_neg hno, hhd, ← hh, if_pos he]]
        exact join_head b o c xs x0 w hS hxs hN h m k e hh.symm (by simp; omega)
end Go.Proofs.YtjffcgimdffkoaaGreatDoor
