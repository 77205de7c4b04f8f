/- The reference's List. -/
import Derived.Test.YtmfgdpbnnlmjhaaCxR
import Derived.Test.YtmfgdpbnnlmjhaaCxH
namespace Go.Proofs.Ytmfgdpbnnlmjhaa
open Go.RowKit

set_option maxRecDepth 100000 in
set_option maxHeartbeats 4000000 in
theorem klist_ex (a : Option Addr) (c : Nat) (xs : List ByteArray) (w : World) (hX : StrA w a xs) (hz : ∀ x ∈ xs, x.size ≤ 140737488355328) :
    Calls Try.prog 19 #[.slice a xs.length c] w fun e w' => (LsOk (ls xs) ∧ e = .returned (.tuple #[.string (str (lstL (ls xs))), .int .i64 0]) ∨ ¬ LsOk (ls xs) ∧ e = .returned (.tuple #[.string ⟨#[]⟩, .int .i64 4])) ∧ Below w.heap.size w w' := by
  obtain ⟨N, hN⟩ : ∃ N, N = xs.length := ⟨_, rfl⟩
  rw [← hN]
  have HX := Lib.hid hX
  have HL := Lib.hid hN
  have HZ := Lib.hid hz
  clear hX hN hz
  go_enter Try.func19, Try.ntmps19
  go_wp2_with fail
  go_loopw [4, 5] (fun m i wr => ∃ k z : Nat, k ≤ N ∧ k ≤ 1000 ∧ z ≤ 1048576 ∧ i = .int .i64 (k : Int) ∧ m = .int .i64 (z : Int) ∧ Hid (z = tot (ls (xs.take k))) ∧ wr = w) (fun _ i _ => 1000 - (intOf i).toNat)
  case atStart => exact ⟨0, 0, Nat.zero_le _, by omega, by omega, rfl, rfl, by simp [Hid, ls, tot], rfl⟩
  case round =>
    obtain ⟨k, z, hk, hk3, hz6, rfl, rfl, HT, rfl⟩ := hrel
    by_cases hlt : k < N
    · have hkx : k < xs.length := by rw [← HL.out]; exact hlt
      obtain ⟨b, o, rfl, hcell⟩ := HX.out.at hkx
      have ht := tot_next xs k hkx
      have hsz := HZ.out xs[k] (List.getElem_mem _)
      obtain ⟨x, hx⟩ : ∃ x, x = xs[k] := ⟨_, rfl⟩
      rw [← hx] at hcell ht hsz
      rw [← HT.out] at ht
      have ww : IntKind.i64.wrap ((z : Int) + (x.size : Int)) = ((z + x.size : Nat) : Int) := by rw [IntWalk.i64_in _ (by omega)]; omega
      by_cases hg : 1048576 < z + x.size
      · have HR : Hid (¬ LsOk (ls xs)) := fun h => by
          have := tot_take xs (k + 1)
          have := h.2
          omega
        obtain ⟨y, hy⟩ : ∃ y, y = z + x.size := ⟨_, rfl⟩
        rw [← hy] at ww hg
        have hgi : (1048576 : Int) < (y : Int) := by omega
        clear ht hx HT hy
        go_wp2
        go_ret2
        exact ⟨.inr ⟨HR.out, rfl⟩, Below.refl _ _⟩
      · obtain ⟨y, hy⟩ : ∃ y, y = z + x.size := ⟨_, rfl⟩
        rw [← hy] at ww hg ht
        have hgi : ¬ (1048576 : Int) < (y : Int) := by omega
        by_cases h3 : 1000 ≤ k
        · have HR : Hid (¬ LsOk (ls xs)) := fun h => by
            have := h.1
            rw [ls_len] at this
            omega
          clear ht hx HT hy
          go_wp2
          go_ret2
          exact ⟨.inr ⟨HR.out, rfl⟩, Below.refl _ _⟩
        · have HT2 := Lib.hid ht.symm
          clear ht hx HT hy
          go_wp2
          go_roundw
          case rel => exact ⟨k + 1, y, by omega, by omega, by omega, by go_num, rfl, HT2, trivial⟩
          case measure => simp [intOf]; omega
    · have hkN : k = N := by omega
      have hok : LsOk (ls xs) := by
        have := HT.out
        rw [List.take_of_length_le (by have := HL.out; omega)] at this
        have hl := HL.out
        exact ⟨by rw [ls_len]; omega, by omega⟩
      have HO := Lib.hid hok
      have HLe := Lib.hid (lst_len hok)
      have HS : Hid (enc (fold (xs.length : Nat)) ++ flatL (ls xs) = lstL (ls xs)) := by show _ = _; rw [lstL, ls_len]
      rw [← HL.out] at HLe HS
      have AN : Hid (Am (N : Int)) := am_nat (by omega)
      clear HT hok hkN
      obtain ⟨wo, hwo⟩ : ∃ wo, wo = wr := ⟨_, rfl⟩
      subst hwo
      go_wp2_with fail
      refine (knum_any (N : Int) wo AN.out).mono ?_
      rintro e w1 ⟨rfl, hb1⟩
      have B1 := Lib.hid hb1
      clear hb1
      go_wp2_with fail
      go_loopw [6, 7] (fun v i w2 => ∃ k : Nat, k ≤ N ∧ i = .int .i64 (k : Int) ∧ v = .string (str (enc (fold (N : Int)) ++ flatL (ls (xs.take k)))) ∧ Hid (Below wo.heap.size wo w2)) (fun _ i _ => N - (intOf i).toNat)
      case atStart => exact ⟨0, Nat.zero_le _, rfl, by simp [ls, flatL], B1.out⟩
      case round =>
        obtain ⟨k, hk, rfl, rfl, HI⟩ := hrel
        by_cases hlt2 : k < N
        · have hkx : k < xs.length := by rw [← HL.out]; exact hlt2
          obtain ⟨b, o, rfl, hcell⟩ := (HX.out.up HI.out).at hkx
          have hnx := ls_next xs k hkx
          obtain ⟨x, hx⟩ : ∃ x, x = xs[k] := ⟨_, rfl⟩
          rw [← hx] at hcell hnx
          have hx6 : x.size ≤ 1048576 := by
            have h1 := tot_next xs k hkx
            have h2 := tot_take xs (k + 1)
            have h3 := HO.out.2
            rw [← hx] at h1
            omega
          have AX : Hid (Am (x.size : Int)) := am_nat (by omega)
          have HF : Hid (str (enc (fold (N : Int)) ++ flatL (ls (xs.take k))) ++ str (enc (fold (x.size : Int))) ++ x = str (enc (fold (N : Int)) ++ flatL (ls (xs.take (k + 1))))) := by
            show _ = _
            have hxs : x = str x.data.toList := (str_of x).symm
            rw [hnx, flatL_app, flatL_one, itm, list_size]
            conv => lhs; rhs; rw [hxs]
            rw [sapp, sapp]
            simp only [List.append_assoc]
          have hEn : (enc (fold (x.size : Int))).length ≤ 10 := by have := nl_ten AX.out; unfold nl at this; exact this
          obtain ⟨X, hX⟩ : ∃ X, X = str (enc (fold (N : Int)) ++ flatL (ls (xs.take k))) := ⟨_, rfl⟩
          obtain ⟨Y, hY⟩ : ∃ Y, Y = str (enc (fold (x.size : Int))) := ⟨_, rfl⟩
          have sX : X.size ≤ 2000000 := by rw [hX, str_size]; exact HLe.out k
          have sY : Y.size ≤ 10 := by rw [hY, str_size]; exact hEn
          have HK : Hid (∀ W : World, Calls Try.prog 15 #[.int .i64 (x.size : Int)] W fun e w' => e = .returned (.string Y) ∧ Below W.heap.size W w') := fun W => by rw [hY]; exact knum_any _ W AX.out
          rw [← hX] at HF ⊢
          rw [← hY] at HF
          have sXY : (X ++ Y).size = X.size + Y.size := ByteArray.size_append
          have q1 : ¬ (9223372036854775807 < X.size + Y.size) := by omega
          have q2 : ¬ (9223372036854775807 < (X ++ Y).size + x.size) := by omega
          have q3 : ¬ (9223372036854775807 < X.size + Y.size + x.size) := by omega
          clear hX hY sX sY sXY hnx hEn hx
          have HC := Lib.hid hcell
          go_wp2_with fail
          go_region_held (fun w' => w'.cell? ⟨b, o + k, none⟩ = some (.string x)) (first | exact HC.out | exact kcell k1.out HC.out) (first | (go_at_call 15; (with_reducible refine (HK.out _).mono ?_); rintro e w3 ⟨rfl, hb3⟩; have k1 := Lib.hid (up2 ((Below.refl _ _).drew) hb3); clear hb3))
          all_goals go_wp2
          all_goals go_roundw
          all_goals first
            | exact ⟨k + 1, by omega, by go_num, by rw [HF.out], up2 HI.out k1.out⟩
            | (simp [intOf]; omega)
        · have hkN : k = N := by omega
          have HD : Hid (xs.take k = xs) := List.take_of_length_le (by rw [hkN, HL.out]; omega)
          clear hkN
          go_wp2
          go_ret2
          exact ⟨.inl ⟨HO.out, by rw [HD.out, HS.out]; rfl⟩, HI.out⟩
theorem klist_ok (a : Option Addr) (c : Nat) (xs : List ByteArray) (w : World) (hX : StrA w a xs) (hok : LsOk (ls xs)) :
    Calls Try.prog 19 #[.slice a xs.length c] w fun e w' => e = .returned (.tuple #[.string (str (lstL (ls xs))), .int .i64 0]) ∧ Below w.heap.size w w' :=
  (klist_ex a c xs w hX (fun x hx => by
    have h1 : x.size ≤ tot (ls xs) := by
      obtain ⟨p, q, e⟩ := List.append_of_mem hx
      subst e
      rw [ls_app, tot_app]
      simp only [ls, tot, List.map_cons, List.sum_cons, list_size]
      omega
    have := hok.2
    omega)).mono fun _ _ ⟨h, hb⟩ => by
    rcases h with ⟨_, e⟩ | ⟨h, _⟩
    · exact ⟨e, hb⟩
    · exact absurd hok h
theorem klist_no (a : Option Addr) (c : Nat) (xs : List ByteArray) (w : World) (hX : StrA w a xs) (hz : ∀ x ∈ xs, x.size ≤ 140737488355328) (hno : ¬ LsOk (ls xs)) :
    Calls Try.prog 19 #[.slice a xs.length c] w fun e w' => e = .returned (.tuple #[.string ⟨#[]⟩, .int .i64 4]) ∧ Below w.heap.size w w' :=
  (klist_ex a c xs w hX hz).mono fun _ _ ⟨h, hb⟩ => by
    rcases h with ⟨h, _⟩ | ⟨_, e⟩
    · exact absurd h hno
    · exact ⟨e, hb⟩
end Go.Proofs.Ytmfgdpbnnlmjhaa
