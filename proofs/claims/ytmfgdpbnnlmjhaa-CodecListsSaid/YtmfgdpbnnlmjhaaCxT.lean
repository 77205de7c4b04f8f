/- The reference's Parts. -/
import Derived.Test.YtmfgdpbnnlmjhaaCxS
namespace Go.Proofs.Ytmfgdpbnnlmjhaa
open Go.RowKit

set_option maxRecDepth 100000 in
set_option maxHeartbeats 4000000 in
theorem kparts_ex (s : ByteArray) (w : World) (hs6 : s.size ≤ 1000000) :
    Calls Try.prog 21 #[.string s] w fun e w' => (∃ a v, Pt s.data.toList (a.map ls) ∧ e = .returned v ∧ PtR w' w.heap.size v a) ∧ Below w.heap.size w w' := by
  obtain ⟨L, hL⟩ : ∃ L, L = s.data.toList := ⟨_, rfl⟩
  have hsz : L.length = s.size := by rw [hL, list_size]
  have hss : s = str L := by rw [hL]; exact (str_of s).symm
  rw [← hL]
  obtain ⟨a, ha⟩ := tk_ex L
  cases a with
  | none =>
    have HT : Hid (Pt L none) := pt_first ha
    have TC := Lib.hid (ktake_no L w ha)
    rw [← hss] at TC
    clear ha hss hL hsz
    go_enter Try.func21, Try.ntmps21
    go_wp2_with fail
    refine TC.out.mono ?_
    rintro e w' ⟨rfl, hb⟩
    go_wp2
    go_ret2
    exact ⟨⟨none, _, HT.out, rfl, rfl⟩, hb⟩
  | some n =>
    have TC := Lib.hid (ktake_yes L n w ha)
    obtain ⟨hn, q, hq⟩ := ha
    rw [← hss] at TC
    by_cases h0 : n < 0
    · have HT : Hid (Pt L none) := pt_many hq (.inl h0)
      clear hn hq hss hL hsz
      go_enter Try.func21, Try.ntmps21
      go_wp2_with fail
      refine TC.out.mono ?_
      rintro e w' ⟨rfl, hb⟩
      go_wp2
      go_ret2
      exact ⟨⟨none, _, HT.out, rfl, rfl⟩, hb⟩
    · by_cases h1 : 1000 < n
      · have HT : Hid (Pt L none) := pt_many hq (.inr h1)
        clear hn hq hss hL hsz
        go_enter Try.func21, Try.ntmps21
        go_wp2_with fail
        refine TC.out.mono ?_
        rintro e w' ⟨rfl, hb⟩
        go_wp2
        go_ret2
        exact ⟨⟨none, _, HT.out, rfl, rfl⟩, hb⟩
      · obtain ⟨M, hM⟩ : ∃ M : Nat, n = (M : Int) := ⟨n.toNat, by omega⟩
        subst hM
        have hM1 : M ≤ 1000 := by omega
        obtain ⟨u, hu⟩ : ∃ u, u = nl (M : Int) := ⟨_, rfl⟩
        have hul : u + q.length = s.size := by rw [← hsz, hq, List.length_append, hu]; rfl
        have hdq : L.drop u = q := by rw [hq, hu]; exact List.drop_left' rfl
        have HQ := Lib.hid hq
        have hus : u ≤ s.size := by omega
        rw [← hu] at TC
        have HS := Lib.hid (And.intro hL (And.intro hsz hss))
        have HDq := Lib.hid hdq
        clear hu hq hn hss hL hsz hdq hul
        go_enter Try.func21, Try.ntmps21
        go_wp2_with fail
        refine TC.out.mono ?_
        rintro e w' ⟨rfl, hb⟩
        go_wp2_with fail
        have O0 : Hid (OwnS (w'.alloc (.cells #[] 9)) w.heap.size (.slice (some ⟨w'.heap.size, 0, none⟩) 0 0) [] ∧ Below w.heap.size w (w'.alloc (.cells #[] 9))) := ⟨⟨rfl, .inr ⟨w'.heap.size, 0, #[], rfl, hb.size, Has.fresh w' 9 #[], Nat.le_refl _, by unfold maxLen; omega, rfl, rfl⟩⟩, hb.alloc hb.size _⟩
        clear hb
        go_loopw [5, 7, 8] (fun y l i wr => ∃ (k j : Nat) (xs : List ByteArray) (r : List UInt8), k ≤ M ∧ j ≤ s.size ∧ i = .int .i64 (k : Int) ∧ y = .int .i64 (j : Int) ∧ Hid (xs.length = k ∧ L.drop j = r ∧ L = enc (fold (M : Int)) ++ (flatL (ls xs) ++ r) ∧ OwnS wr w.heap.size l xs ∧ Below w.heap.size w wr)) (fun _ _ i _ => M - (intOf i).toNat)
        case atStart => exact ⟨0, u, [], q, Nat.zero_le _, hus, rfl, rfl, rfl, HDq.out, by simpa [ls, flatL] using HQ.out, O0.out.1, O0.out.2⟩
        case round =>
          obtain ⟨k, j, xs, r, hk, hj, rfl, rfl, HI⟩ := hrel
          have hji : (j : Int) ≤ (s.size : Int) := by omega
          obtain ⟨a0, c0, e0, hSA⟩ := HI.out.2.2.2.1.slice
          rw [HI.out.1] at e0
          subst e0
          have hrl : j + r.length = s.size := by
            have := congrArg List.length HI.out.2.1
            rw [List.length_drop, HS.out.2.1] at this
            omega
          by_cases hlt : k < M
          · have hex : s.extract j s.size = str r := by rw [rest_of, ← HS.out.1, HI.out.2.1]
            obtain ⟨b, hb⟩ := tk_ex r
            cases b with
            | none =>
              have HT : Hid (Pt L none) := by
                show Pt L none
                rw [HI.out.2.2.1]
                exact pt_miss (by rw [ls_len, HI.out.1]; exact hlt) (pr_take_none hb (by omega))
              have PC := Lib.hid (fun W => ktake_no r W hb)
              have HB := Lib.hid HI.out.2.2.2.2
              obtain ⟨X, hX⟩ : ∃ X, X = str r := ⟨_, rfl⟩
              rw [← hX] at PC hex
              clear HI hb hX hrl hSA
              go_wp2_with fail
              refine (PC.out _).mono ?_
              rintro e w1 ⟨rfl, hb1⟩
              go_wp2
              go_ret2
              exact ⟨⟨none, _, HT.out, rfl, rfl⟩, up2 HB.out hb1⟩
            | some n =>
              have PC := Lib.hid (fun W => ktake_yes r n W hb)
              obtain ⟨hn, q', hq'⟩ := hb
              obtain ⟨v, hv⟩ : ∃ v, v = nl n := ⟨_, rfl⟩
              have hvl : r.length = v + q'.length := by rw [hq', List.length_append, hv]; rfl
              have hdq : L.drop (j + v) = q' := by
                rw [← List.drop_drop, HI.out.2.1, hq', hv]
                exact List.drop_left' rfl
              rw [← hv] at PC
              obtain ⟨X, hX⟩ : ∃ X, X = str r := ⟨_, rfl⟩
              rw [← hX] at PC hex
              have HB := Lib.hid HI.out.2.2.2.2
              have hmiss : (n < 0 ∨ (q'.length : Int) < n) → Pt L none := fun h => by
                rw [HI.out.2.2.1]
                exact pt_miss (by rw [ls_len, HI.out.1]; exact hlt) (pr_long hq' h)
              by_cases n0 : n < 0
              · have HT : Hid (Pt L none) := hmiss (.inl n0)
                clear HI hmiss hq' hn hv hvl hdq hX hrl hSA
                go_wp2_with fail
                refine (PC.out _).mono ?_
                rintro e w1 ⟨rfl, hb1⟩
                go_wp2
                go_ret2
                exact ⟨⟨none, _, HT.out, rfl, rfl⟩, up2 HB.out hb1⟩
              · by_cases n1 : (s.size : Int) < n
                · have HT : Hid (Pt L none) := hmiss (.inr (by omega))
                  clear HI hmiss hq' hn hv hvl hdq hX hrl hSA
                  go_wp2_with fail
                  refine (PC.out _).mono ?_
                  rintro e w1 ⟨rfl, hb1⟩
                  go_wp2
                  go_ret2
                  exact ⟨⟨none, _, HT.out, rfl, rfl⟩, up2 HB.out hb1⟩
                · obtain ⟨m, hm⟩ : ∃ m : Nat, n = (m : Int) := ⟨n.toNat, by omega⟩
                  subst hm
                  obtain ⟨ju, hju⟩ : ∃ ju, ju = j + v := ⟨_, rfl⟩
                  obtain ⟨jm, hjm⟩ : ∃ jm, jm = ju + m := ⟨_, rfl⟩
                  have a1 : (j : Int) + (v : Int) = (ju : Int) := by omega
                  have a2 : (ju : Int) + (m : Int) = (jm : Int) := by omega
                  have b1 : ju ≤ 1000000 := by omega
                  have b2 : jm ≤ 2000000 := by omega
                  have b3 : (ju : Int) ≤ (jm : Int) := by omega
                  rw [← hju] at hdq
                  by_cases n2 : (s.size : Int) < (jm : Int)
                  · have HT : Hid (Pt L none) := hmiss (.inr (by omega))
                    clear HI hmiss hq' hn hv hvl hdq hX hrl hju hjm hSA
                    go_wp2_with fail
                    refine (PC.out _).mono ?_
                    rintro e w1 ⟨rfl, hb1⟩
                    go_wp2
                    go_ret2
                    exact ⟨⟨none, _, HT.out, rfl, rfl⟩, up2 HB.out hb1⟩
                  · have hmq : m ≤ q'.length := by omega
                    have hph := pr_hit hq' hmq
                    have hT : s.extract ju jm = str (q'.take m) := by
                      rw [← str_of (s.extract ju jm), Lib.extract_data, ← HS.out.1, hdq, hjm]
                      congr 2
                      omega
                    have hdm : L.drop jm = q'.drop m := by rw [hjm, ← List.drop_drop, hdq]
                    have hjms : jm ≤ s.size := by omega
                    obtain ⟨T, hTe⟩ : ∃ T, T = str (q'.take m) := ⟨_, rfl⟩
                    rw [← hTe] at hT
                    have HH := Lib.hid (And.intro hph (And.intro hdm hTe))
                    have HI2 := Lib.hid HI.out
                    obtain ⟨i0, hi, hz0, hz1, hz2⟩ := info_parts infoStr8
                    have hk6 : k < 1000 := by omega
                    clear HI hmiss hq' hn hv hvl hdq hX hrl hju hjm hSA hmq hph hdm hTe
                    go_wp2_with fail
                    refine (PC.out _).mono ?_
                    rintro e w1 ⟨rfl, hb1⟩
                    have HO1 := Lib.hid (HI2.out.2.2.2.1.up hb1)
                    have HB1 := Lib.hid (up2 HB.out hb1)
                    clear hb1
                    have hown := HO1.out
                    unfold OwnS at hown
                    rw [HI2.out.1] at hown
                    have hbsz := HB1.out.size
                    go_wp2_with (first | (at_builtin; refine wpList_append_own _ rfl _ _ 40 rfl w.heap.size 9 i0 (.string ⟨#[]⟩) 1 16 Try.underlying40 hi hz0 hz1 hz2 rfl (by decide) _ _ _ rfl (World.ownsRow.alloc hown _) ⟨w1.heap.size, 0, none⟩ 1 1 [.string T] rfl rfl (one_new _ _ _) (one_text _) ?c3 ?c4 ?c5 ?_))
                    case c3 => unfold maxLen; omega
                    case c4 => omega
                    case c5 => (first | omega | (simp; omega))
                    intro v' w2 hown' hgrow _
                    have HN : Hid (OwnS w2 w.heap.size v' (xs ++ [T]) ∧ Below w.heap.size w w2) := by
                      refine ⟨?_, ?_⟩
                      · unfold OwnS
                        rw [strV_snoc, List.length_append, HI2.out.1]
                        exact hown'
                      · exact (HB1.out.alloc (HB1.out.size) _).grown hgrow (by simp; omega) (fun j e => (hown.lt j e).1)
                    obtain ⟨a2, c2, e, _⟩ := HN.out.1.slice
                    rw [List.length_append, List.length_singleton, HI2.out.1] at e
                    subst e
                    clear hown' hgrow hown
                    go_wp2
                    go_roundw
                    case rel =>
                      refine ⟨k + 1, jm, xs ++ [T], q'.drop m, by omega, hjms, by go_num, rfl, by rw [List.length_append, HI2.out.1]; rfl, HH.out.2.1, ?_, HN.out.1, HN.out.2⟩
                      rw [HI2.out.2.2.1, HH.out.2.2, ls_app, ls_one, flatL_app, flatL_one, HH.out.1]
                      simp only [List.append_assoc]
                    case measure => simp [intOf]; omega
          · have hkM : k = M := by omega
            have hki : ¬ ((k : Int) < (M : Int)) := by omega
            have ht6 : tot (ls xs) ≤ 1048576 := by
              have := tot_behind HI.out.2.2.1
              have := HS.out.2.1
              omega
            have hok : LsOk (ls xs) := ⟨by rw [ls_len, HI.out.1]; omega, ht6⟩
            have TL := Lib.hid (klist_ok a0 c0 xs wr hSA hok)
            have hxl := HI.out.1
            have hll : lstL (ls xs) = enc (fold (M : Int)) ++ flatL (ls xs) := by rw [lstL, ls_len, hxl, hkM]
            rw [hxl] at TL
            obtain ⟨Y, hY⟩ : ∃ Y, Y = str (lstL (ls xs)) := ⟨_, rfl⟩
            rw [← hY] at TL
            have HB := Lib.hid HI.out.2.2.2.2
            have HO := Lib.hid HI.out.2.2.2.1
            by_cases hr : r = []
            · have HT : Hid (Pt L (some (ls xs))) := by
                have := HI.out.2.2.1
                rw [hr, List.append_nil] at this
                exact ⟨hok, by rw [this, hll]⟩
              have hYs : Y = s := by rw [hY, HT.out.2.symm, ← HS.out.2.2]
              have hq : (s.toList == s.toList) = true := by simp
              have hq2 : (s.toList != s.toList) = false := by simp [bne]
              clear HI hr hok hkM hrl ht6 hll hY hSA
              go_wp2_with fail
              refine TL.out.mono ?_
              rintro e w1 ⟨rfl, hb1⟩
              subst hYs
              go_wp2
              go_ret2
              exact ⟨⟨some xs, _, HT.out, rfl, _, rfl, HO.out.up hb1⟩, up2 HB.out hb1⟩
            · have HT : Hid (Pt L none) := by
                show Pt L none
                rw [HI.out.2.2.1]
                exact pt_behind (by rw [ls_len, HI.out.1, hkM]) hr
              have hYs : Y ≠ s := fun e => hr (by
                have := congrArg (fun x : ByteArray => x.data.toList) e
                simp only [hY, str_list, ← HS.out.1] at this
                rw [HI.out.2.2.1, hll, ← List.append_assoc] at this
                simpa using this)
              have hq : (Y.toList == s.toList) = false := by rw [strs_eq, decide_eq_false hYs]
              have hq2 : (Y.toList != s.toList) = true := by rw [bne, hq]; rfl
              clear HI hr hok hkM hrl ht6 hll hY hYs hSA
              go_wp2_with fail
              refine TL.out.mono ?_
              rintro e w1 ⟨rfl, hb1⟩
              go_wp2
              go_ret2
              exact ⟨⟨none, _, HT.out, rfl, rfl⟩, up2 HB.out hb1⟩
theorem kparts_yes (r : List UInt8) (xs : List ByteArray) (w : World) (hr : r.length ≤ 1000000) (h : Pt r (some (ls xs))) :
    Calls Try.prog 21 #[.string (str r)] w fun e w' => ∃ a c, e = .returned (.tuple #[.slice a xs.length c, .int .i64 0]) ∧ StrA w' a xs ∧ Below w.heap.size w w' :=
  (kparts_ex (str r) w (by rw [str_size]; exact hr)).mono fun _ _ ⟨⟨o, v, h1, e, hv⟩, hb⟩ => by
    rw [str_list] at h1
    have h2 := h1.one h
    cases o with
    | none => cases h2
    | some ts =>
      injection h2 with h2
      have : ts = xs := ls_inj h2
      subst this
      obtain ⟨s, hv, ho⟩ := hv
      obtain ⟨a, c, hs, hn⟩ := ho.slice
      exact ⟨a, c, by rw [e, hv, hs], hn, hb⟩
theorem kparts_no (r : List UInt8) (w : World) (hr : r.length ≤ 1000000) (h : Pt r none) :
    Calls Try.prog 21 #[.string (str r)] w fun e w' => e = .returned (.tuple #[.slice none 0 0, .int .i64 2]) ∧ Below w.heap.size w w' :=
  (kparts_ex (str r) w (by rw [str_size]; exact hr)).mono fun _ _ ⟨⟨o, v, h1, e, hv⟩, hb⟩ => by
    rw [str_list] at h1
    have h2 := h1.one h
    cases o with
    | some ts => cases h2
    | none => exact ⟨by rw [e]; exact congrArg _ hv, hb⟩
end Go.Proofs.Ytmfgdpbnnlmjhaa
