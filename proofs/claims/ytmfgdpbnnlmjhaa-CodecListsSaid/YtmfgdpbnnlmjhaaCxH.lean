/- The program's Parts. -/
import Derived.Test.YtmfgdpbnnlmjhaaCxG
namespace Go.Proofs.Ytmfgdpbnnlmjhaa
open Go.RowKit

/-- what Parts answers -/
def PtR (w : World) (B : Nat) (v : Value) : Option (List ByteArray) → Prop
  | some ts => ∃ s, v = .tuple #[s, .int .i64 0] ∧ OwnS w B s ts
  | none => v = .tuple #[.slice none 0 0, .int .i64 2]
theorem pr_ex (r : List UInt8) : ∃ a, Pr r a := by
  by_cases h : ∃ t q, r = itm t ++ q
  · obtain ⟨t, q, e⟩ := h
    exact ⟨some t, q, e⟩
  · exact ⟨none, fun t q e => h ⟨t, q, e⟩⟩
theorem ls_app (xs ys : List ByteArray) : ls (xs ++ ys) = ls xs ++ ls ys := by simp [ls]
theorem ls_inj : ∀ {xs ys : List ByteArray}, ls xs = ls ys → xs = ys := by
  intro xs
  induction xs with
  | nil => intro ys h; cases ys with
    | nil => rfl
    | cons y ys => simp [ls] at h
  | cons x xs ih => intro ys h; cases ys with
    | nil => simp [ls] at h
    | cons y ys =>
      simp only [ls, List.map_cons] at h
      injection h with h1 h2
      rw [ih h2, ← str_of x, h1, str_of]
theorem ls_ex (ts : List (List UInt8)) : ∃ xs, ls xs = ts := ⟨ts.map str, by simp only [ls, List.map_map]; conv => rhs; rw [← List.map_id ts]
                                                                             exact List.map_congr_left fun x _ => str_list x⟩
theorem ls_one (t : List UInt8) : ls [str t] = [t] := by simp only [ls, List.map_cons, List.map_nil, str_list]
theorem itm_cut (t q : List UInt8) : (str (itm t ++ q)).extract (itm t).length (str (itm t ++ q)).size = str q := cut_behind _ _
theorem tot_behind {n : Int} {xs : List ByteArray} {r l : List UInt8} (h : l = enc (fold n) ++ (flatL (ls xs) ++ r)) : tot (ls xs) ≤ l.length := by
  have := tot_le (ls xs)
  rw [h]
  simp only [List.length_append]
  omega
set_option maxRecDepth 100000 in
set_option maxHeartbeats 4000000 in
theorem parts_ex (s : ByteArray) (w : World) (hs6 : s.size ≤ 1000000) :
    Calls Try.prog 20 #[.string s] w fun e w' => (∃ a v, Pt s.data.toList (a.map ls) ∧ e = .returned v ∧ PtR w' w.heap.size v a) ∧ Below w.heap.size w w' := by
  obtain ⟨L, hL⟩ : ∃ L, L = s.data.toList := ⟨_, rfl⟩
  have hsz : L.length = s.size := by rw [hL, list_size]
  have hss : s = str L := by rw [hL]; exact (str_of s).symm
  rw [← hL]
  obtain ⟨a, ha⟩ := tk_ex L
  cases a with
  | none =>
    have HT : Hid (Pt L none) := pt_first ha
    have TC := Lib.hid (take_no L w ha)
    rw [← hss] at TC
    clear ha hss hL hsz
    go_enter Try.func20, Try.ntmps20
    go_wp2_with fail
    refine TC.out.mono ?_
    rintro e w' ⟨rfl, rfl⟩
    go_wp2
    go_ret2
    exact ⟨⟨none, _, HT.out, rfl, rfl⟩, Below.refl _ _⟩
  | some n =>
    have TC := Lib.hid (take_yes L n w ha)
    obtain ⟨hn, q, hq⟩ := ha
    rw [← hss] at TC
    by_cases h0 : n < 0
    · have HT : Hid (Pt L none) := pt_many hq (.inl h0)
      clear hn hq hss hL hsz
      go_enter Try.func20, Try.ntmps20
      go_wp2_with fail
      refine TC.out.mono ?_
      rintro e w' ⟨rfl, rfl⟩
      go_wp2
      go_ret2
      exact ⟨⟨none, _, HT.out, rfl, rfl⟩, Below.refl _ _⟩
    · by_cases h1 : 1000 < n
      · have HT : Hid (Pt L none) := pt_many hq (.inr h1)
        clear hn hq hss hL hsz
        go_enter Try.func20, Try.ntmps20
        go_wp2_with fail
        refine TC.out.mono ?_
        rintro e w' ⟨rfl, rfl⟩
        go_wp2
        go_ret2
        exact ⟨⟨none, _, HT.out, rfl, rfl⟩, Below.refl _ _⟩
      · obtain ⟨M, hM⟩ : ∃ M : Nat, n = (M : Int) := ⟨n.toNat, by omega⟩
        subst hM
        have hM1 : M ≤ 1000 := by omega
        have hx : s.extract (nl (M : Int)) s.size = str q := by rw [hss, hq]; exact cut_behind _ _
        have hxi : (nl (M : Int) : Int) ≤ (s.size : Int) := by
          rw [← hsz, hq, List.length_append]
          show ((enc (fold (M : Int))).length : Int) ≤ _
          omega
        have hql : q.length ≤ 1000000 := by
          have := congrArg List.length hq
          rw [List.length_append] at this
          omega
        have HQ := Lib.hid hq
        have HL6 : Hid (L.length ≤ 1000000) := by show L.length ≤ 1000000; omega
        obtain ⟨u, hu⟩ : ∃ u, u = nl (M : Int) := ⟨_, rfl⟩
        obtain ⟨X, hX⟩ : ∃ X, X = str q := ⟨_, rfl⟩
        rw [← hu] at TC hx hxi
        rw [← hX] at hx
        have HX := Lib.hid hX
        clear hX hu hq hn hss hL hsz
        go_enter Try.func20, Try.ntmps20
        go_wp2_with fail
        refine TC.out.mono ?_
        rintro e w' ⟨rfl, rfl⟩
        go_wp2_with fail
        go_loopw [7, 8, 32] (fun l y i wr => ∃ (k : Nat) (xs : List ByteArray) (r : List UInt8), k ≤ M ∧ i = .int .i64 (k : Int) ∧ y = .string (str r) ∧ Hid (xs.length = k ∧ (∀ x ∈ xs, x.size ≤ 1000000) ∧ r.length ≤ 1000000 ∧ L = enc (fold (M : Int)) ++ (flatL (ls xs) ++ r) ∧ OwnS wr w.heap.size l xs ∧ Below w.heap.size w wr)) (fun _ _ i _ => M - (intOf i).toNat)
        case atStart => exact ⟨0, [], q, Nat.zero_le _, rfl, by rw [← HX.out], rfl, by simp, hql, by simpa [ls, flatL] using HQ.out, World.ownsRow_nil _ _ _ _, Below.refl _ _⟩
        case round =>
          obtain ⟨k, xs, r, hk, rfl, rfl, HI⟩ := hrel
          by_cases hlt : k < M
          · obtain ⟨b, hb⟩ := pr_ex r
            cases b with
            | none =>
              have HT : Hid (Pt L none) := by
                show Pt L none
                rw [HI.out.2.2.2.1]
                exact pt_miss (by rw [ls_len, HI.out.1]; exact hlt) hb
              have PC := Lib.hid (fun W => part_no r W HI.out.2.2.1 hb)
              have HB := Lib.hid HI.out.2.2.2.2.2
              clear HI hb
              go_wp2_with fail
              refine (PC.out _).mono ?_
              rintro e w' ⟨rfl, rfl⟩
              go_wp2
              go_ret2
              exact ⟨⟨none, _, HT.out, rfl, rfl⟩, HB.out⟩
            | some t =>
              obtain ⟨q', hq'⟩ := hb
              have PC := Lib.hid (fun W => part_yes t q' W (by rw [← hq']; exact HI.out.2.2.1))
              rw [← hq'] at PC
              have hx2 : (str r).extract (itm t).length (str r).size = str q' := by rw [hq']; exact itm_cut _ _
              have hxi2 : ((itm t).length : Int) ≤ ((str r).size : Int) := by
                rw [str_size, hq', List.length_append]; omega
              have hown := HI.out.2.2.2.2.1
              unfold OwnS at hown
              rw [HI.out.1] at hown
              have HI2 := Lib.hid HI.out
              have hbsz := HI.out.2.2.2.2.2.size
              have HQ2 := Lib.hid hq'
              have ht6 : t.length ≤ 1000000 ∧ q'.length ≤ 1000000 := by
                have := HI.out.2.2.1
                rw [hq', List.length_append, itm, List.length_append] at this
                omega
              obtain ⟨a', c', e, _⟩ := HI.out.2.2.2.2.1.slice
              rw [HI.out.1] at e
              subst e
              obtain ⟨Y, hY⟩ : ∃ Y, Y = str r := ⟨_, rfl⟩
              obtain ⟨Z, hZ⟩ : ∃ Z, Z = str q' := ⟨_, rfl⟩
              obtain ⟨T, hT⟩ : ∃ T, T = str t := ⟨_, rfl⟩
              obtain ⟨j, hj⟩ : ∃ j, j = (itm t).length := ⟨_, rfl⟩
              rw [← hY, ← hT, ← hj] at PC
              rw [← hY, ← hZ, ← hj] at hx2
              rw [← hY, ← hj] at hxi2
              rw [← hY]
              have HZ := Lib.hid (And.intro hZ hT)
              have HT6 := Lib.hid ht6
              obtain ⟨i0, hi, hz0, hz1, hz2⟩ := info_parts infoStr8
              have hk6 : k < 1000 := by omega
              clear hY hZ hT hj HI hq' ht6 hx hxi
              go_wp2_with fail
              refine (PC.out _).mono ?_
              rintro e w' ⟨rfl, rfl⟩
              go_wp2_with (first | (at_builtin; refine wpList_append_own _ rfl _ _ 40 rfl w.heap.size 9 i0 (.string ⟨#[]⟩) 1 16 Try.underlying40 hi hz0 hz1 hz2 rfl (by decide) _ _ _ rfl (World.ownsRow.alloc hown _) ⟨wr.heap.size, 0, none⟩ 1 1 [.string T] rfl rfl (one_new _ _ _) (one_text _) ?c3 ?c4 ?c5 ?_))
              case c3 => unfold maxLen; omega
              case c4 => omega
              case c5 => (first | omega | (simp; omega))
              intro v' w1 hown' hgrow _
              have HN : Hid (OwnS w1 w.heap.size v' (xs ++ [T]) ∧ Below w.heap.size w w1) := by
                refine ⟨?_, ?_⟩
                · unfold OwnS
                  rw [strV_snoc, List.length_append, HI2.out.1]
                  exact hown'
                · exact (HI2.out.2.2.2.2.2.alloc (HI2.out.2.2.2.2.2.size) _).grown hgrow (by simp; omega) (fun j e => (hown.lt j e).1)
              obtain ⟨a2, c2, e, _⟩ := HN.out.1.slice
              rw [List.length_append, List.length_singleton, HI2.out.1] at e
              subst e
              clear hown' hgrow hown
              go_wp2
              go_roundw
              case rel =>
                refine ⟨k + 1, xs ++ [T], q', by omega, by go_num, by rw [HZ.out.1], by rw [List.length_append, HI2.out.1]; rfl, ?_, HT6.out.2, ?_, HN.out.1, HN.out.2⟩
                · intro x hx2
                  rcases List.mem_append.1 hx2 with z | z
                  · exact HI2.out.2.1 x z
                  · simp at z; rw [z, HZ.out.2, str_size]; exact HT6.out.1
                · rw [HI2.out.2.2.2.1, HQ2.out, HZ.out.2, ls_app, ls_one, flatL_app, flatL_one]; simp only [List.append_assoc]
              case measure => simp [intOf]; omega
          · have hkM : k = M := by omega
            have hki : ¬ ((k : Int) < (M : Int)) := by omega
            by_cases hr : r = []
            · have hown := HI.out.2.2.2.2.1
              have ht6 : tot (ls xs) ≤ 1048576 := by
                have := tot_behind HI.out.2.2.2.1
                have := HL6.out
                omega
              have HT : Hid (Pt L (some (ls xs))) := by
                have := HI.out.2.2.2.1
                rw [hr, List.append_nil] at this
                refine ⟨⟨by rw [ls_len, HI.out.1]; omega, ht6⟩, ?_⟩
                rw [this, lstL, ls_len, HI.out.1, hkM]
              have hrs : (str r).toList.isEmpty = true := by rw [Lib.toList_data, str_list, hr]; rfl
              obtain ⟨a2, c2, e, hSA⟩ := hown.slice
              have hxl := HI.out.1
              subst e
              have TL := Lib.hid (fun W hW => tooLong_any a2 c2 xs W hW (by omega))
              rw [decide_eq_false (by omega)] at TL
              have CL := Lib.hid (fun W hW hB => cloned_any w.heap.size (.slice a2 xs.length c2) xs W hW hB HI.out.2.1 (by omega))
              rw [hxl] at TL CL ⊢
              have HB := Lib.hid HI.out.2.2.2.2.2
              have HO := Lib.hid hown
              have HS := Lib.hid hSA
              clear HI hr hown hSA hkM hx hxi ht6
              go_wp2_with fail
              refine (TL.out _ HS.out).mono ?_
              rintro e w' ⟨rfl, rfl⟩
              go_wp2_with fail
              refine (CL.out _ (by rw [hxl] at HO; exact HO.out) HB.out.size).mono ?_
              rintro e w' ⟨rfl, hO, hB⟩
              go_wp2
              go_ret2
              exact ⟨⟨some xs, _, HT.out, rfl, _, rfl, hO⟩, HB.out.trans hB⟩
            · have HT : Hid (Pt L none) := by
                show Pt L none
                rw [HI.out.2.2.2.1]
                exact pt_behind (by rw [ls_len, HI.out.1, hkM]) hr
              have hrs : (str r).toList.isEmpty = false := by rw [Lib.toList_data, str_list]; simpa using hr
              have HB := Lib.hid HI.out.2.2.2.2.2
              clear HI hr hkM hx hxi
              go_wp2
              go_ret2
              exact ⟨⟨none, HT.out, _, rfl, rfl⟩, HB.out⟩
theorem parts_yes (r : List UInt8) (xs : List ByteArray) (w : World) (hr : r.length ≤ 1000000) (h : Pt r (some (ls xs))) :
    Calls Try.prog 20 #[.string (str r)] w fun e w' => ∃ a c, e = .returned (.tuple #[.slice a xs.length c, .int .i64 0]) ∧ StrA w' a xs ∧ Below w.heap.size w w' :=
  (parts_ex (str r) w (by rw [str_size]; exact hr)).mono fun _ _ ⟨⟨o, v, h1, e, hv⟩, hb⟩ => by
    rw [str_list] at h1
    have h2 := h1.one h
    cases o with
    | none => cases h2
    | some ts =>
      injection h2 with h2
      have : ts = xs := ls_inj h2
      subst this
      obtain ⟨s, hv, ho⟩ := hv
      obtain ⟨a, c, hs, hn⟩ := ho.slice
      exact ⟨a, c, by rw [e, hv, hs], hn, hb⟩
theorem parts_no (r : List UInt8) (w : World) (hr : r.length ≤ 1000000) (h : Pt r none) :
    Calls Try.prog 20 #[.string (str r)] w fun e w' => e = .returned (.tuple #[.slice none 0 0, .int .i64 2]) ∧ Below w.heap.size w w' :=
  (parts_ex (str r) w (by rw [str_size]; exact hr)).mono fun _ _ ⟨⟨o, v, h1, e, hv⟩, hb⟩ => by
    rw [str_list] at h1
    have h2 := h1.one h
    cases o with
    | some ts => cases h2
    | none => exact ⟨by rw [e]; exact congrArg _ hv, hb⟩
end Go.Proofs.Ytmfgdpbnnlmjhaa
