/- Texts as one: tooLong, List, part. -/
import Derived.Test.YtmfgdpbnnlmjhaaCxE
import Derived.Test.YtmfgdpbnnlmjhaaRcS
namespace Go.Proofs.Ytmfgdpbnnlmjhaa
open Go.RowKit

/-- texts as rows of bytes -/
def ls (xs : List ByteArray) : List (List UInt8) := xs.map fun x => x.data.toList
theorem ls_len (xs : List ByteArray) : (ls xs).length = xs.length := by simp [ls]
theorem ls_next (xs : List ByteArray) (k : Nat) (h : k < xs.length) : ls (xs.take (k + 1)) = ls (xs.take k) ++ [xs[k].data.toList] := by
  rw [List.take_succ_eq_append_getElem h]; simp only [ls, List.map_append, List.map_cons, List.map_nil]
theorem tot_next (xs : List ByteArray) (k : Nat) (h : k < xs.length) : tot (ls (xs.take (k + 1))) = tot (ls (xs.take k)) + xs[k].size := by
  rw [ls_next xs k h, tot_app]; simp only [tot, List.map_cons, List.map_nil, List.sum_cons, List.sum_nil, list_size, Nat.add_zero]
theorem tot_take (xs : List ByteArray) (k : Nat) : tot (ls (xs.take k)) ≤ tot (ls xs) := by
  have h : ls xs = ls (xs.take k) ++ ls (xs.drop k) := by simp [ls]
  rw [h, tot_app]; omega
theorem StrA.at {w : World} {a : Option Addr} {xs : List ByteArray} (h : StrA w a xs) {j : Nat} (hj : j < xs.length) : ∃ b o, a = some ⟨b, o, none⟩ ∧ w.cell? ⟨b, o + j, none⟩ = some (.string xs[j]) := by
  rcases h with h | ⟨b, o, e, h⟩
  · subst h; simp at hj
  · exact ⟨b, o, e, h.at hj⟩

set_option maxHeartbeats 2000000 in
theorem tooLong_any (a : Option Addr) (c : Nat) (xs : List ByteArray) (w : World) (hX : StrA w a xs) (hn : xs.length ≤ 1000) :
    Calls Try.prog 28 #[.slice a xs.length c] w fun e w' => e = .returned (.bool (decide (1048576 < tot (ls xs)))) ∧ w = w' := by
  obtain ⟨N, hN⟩ : ∃ N, N = xs.length := ⟨_, rfl⟩
  obtain ⟨r, hr⟩ : ∃ r, r = decide (1048576 < tot (ls xs)) := ⟨_, rfl⟩
  rw [← hN, ← hr]
  rw [← hN] at hn
  have HX := Lib.hid hX
  have HL := Lib.hid hN
  have HR := Lib.hid hr
  clear hX hN hr
  go_enter Try.func28, Try.ntmps28
  go_wp2_with fail
  go_loopw [3, 8] (fun m i wr => ∃ k z : Nat, k ≤ N ∧ i = .int .i64 (k : Int) ∧ m = .int .i64 (z : Int) ∧ z ≤ 1048576 ∧ Hid (z + tot (ls (xs.take k)) = 1048576) ∧ wr = w) (fun _ i _ => N - (intOf i).toNat)
  case atStart => exact ⟨0, 1048576, Nat.zero_le _, rfl, rfl, by omega, by simp [Hid, ls, tot], rfl⟩
  case round =>
    obtain ⟨k, z, hk, rfl, rfl, hz, HZ, rfl⟩ := hrel
    by_cases hlt : k < N
    · have hkx : k < xs.length := by rw [← HL.out]; exact hlt
      obtain ⟨b, o, rfl, hcell⟩ := HX.out.at hkx
      have ht := tot_next xs k hkx
      obtain ⟨x, hx⟩ : ∃ x, x = xs[k] := ⟨_, rfl⟩
      rw [← hx] at hcell ht
      by_cases hg : z < x.size
      · have HT : Hid (r = true) := by
          have := tot_take xs (k + 1)
          have := HZ.out
          rw [HR.out]
          exact decide_eq_true (by omega)
        have hgi : (z : Int) < (x.size : Int) := by omega
        clear ht hx HZ hg
        go_wp2
        go_ret
        exact ⟨by rw [HT.out]; rfl, rfl⟩
      · have hgi : ¬ ((z : Int) < (x.size : Int)) := by omega
        obtain ⟨y, hy⟩ : ∃ y, y = z - x.size := ⟨_, rfl⟩
        have hyi : (z : Int) - (x.size : Int) = (y : Int) := by omega
        have HY : Hid (y + tot (ls (xs.take (k + 1))) = 1048576) := by
          have := HZ.out
          show y + tot (ls (xs.take (k + 1))) = 1048576
          omega
        have hy6 : y ≤ 1048576 := by omega
        clear ht hx HZ hg hy
        go_wp2
        go_roundw
        case rel => exact ⟨k + 1, y, by omega, by go_num, rfl, hy6, HY, trivial⟩
        case measure => simp [intOf]; omega
    · have HT : Hid (r = false) := by
        have := HZ.out
        rw [List.take_of_length_le (by have := HL.out; omega)] at this
        rw [HR.out]
        exact decide_eq_false (by omega)
      clear HZ
      go_wp2
      go_ret
      exact ⟨by rw [HT.out]; rfl, rfl⟩

theorem lst_len {xs : List ByteArray} (h : LsOk (ls xs)) (k : Nat) : (enc (fold (xs.length : Nat)) ++ flatL (ls (xs.take k))).length ≤ 2000000 := by
  have h1 := nl_ten (am_nat (n := xs.length) (by have := h.1; rw [ls_len] at this; omega))
  unfold nl at h1
  have key : ∀ ts : List (List UInt8), tot ts ≤ 1048576 → (flatL ts).length ≤ 10 * ts.length + tot ts := by
    intro ts
    induction ts with
    | nil => intro _; simp [flatL]
    | cons t ts ih =>
      intro ht
      have e : tot (t :: ts) = t.length + tot ts := by simp [tot]
      have := ih (by omega)
      have h2 := nl_ten (am_nat (n := t.length) (by omega))
      unfold nl at h2
      simp only [flatL, itm, List.length_append, List.length_cons]
      omega
  have h3 := tot_take xs k
  have h4 := key (ls (xs.take k)) (by have := h.2; omega)
  rw [ls_len, List.length_take] at h4
  have := h.1
  have := h.2
  rw [ls_len] at *
  rw [List.length_append]
  omega
theorem laidI_one (x : Int) (W : World) (hx : Am x) :
    Calls Try.prog 30 #[.slice (some ⟨W.heap.size, 0, none⟩) 1 1] (W.alloc (.cells #[.int .i64 x] 3)) fun e w' => e = .returned (.string (str (enc (fold x)))) ∧ Below W.heap.size W w' :=
  (laidI_any _ 1 [x] _ (nums_one W x 3) (by intro y hy; simp at hy; rw [hy]; exact hx) (by simp)).mono fun _ _ ⟨e, hb⟩ => ⟨by rw [e, flat_one], up2 (boxed _ _) hb⟩
set_option maxRecDepth 100000 in
set_option maxHeartbeats 4000000 in
theorem list_ok (a : Option Addr) (c : Nat) (xs : List ByteArray) (w : World) (hX : StrA w a xs) (hok : LsOk (ls xs)) :
    Calls Try.prog 18 #[.slice a xs.length c] w fun e w' => e = .returned (.tuple #[.string (str (lstL (ls xs))), .int .i64 0]) ∧ Below w.heap.size w w' := by
  have hN1 : xs.length ≤ 1000 := by have := hok.1; rwa [ls_len] at this
  have HTL := Lib.hid (tooLong_any a c xs w hX hN1)
  rw [decide_eq_false (by have := hok.2; omega)] at HTL
  have HLe := Lib.hid (lst_len hok)
  have HO := Lib.hid hok
  have HS : Hid (enc (fold (xs.length : Nat)) ++ flatL (ls xs) = lstL (ls xs)) := by show _ = _; rw [lstL, ls_len]
  obtain ⟨N, hN⟩ : ∃ N, N = xs.length := ⟨_, rfl⟩
  rw [← hN] at hN1 HTL HLe HS ⊢
  have HX := Lib.hid hX
  have HL := Lib.hid hN
  have h0 : ¬ ((1000 : Int) < (N : Int)) := by omega
  clear hX hN hok
  go_enter Try.func18, Try.ntmps18
  go_wp2_with fail
  refine HTL.out.mono ?_
  rintro e w' ⟨rfl, rfl⟩
  go_wp2_with fail
  have AN : Hid (Am (N : Int)) := am_nat (by omega)
  have H0 := Lib.hid (Bld.fresh w)
  have hb0 := Lib.hid (boxed w (.cells #[.pointer none, .slice none 0 0] 58))
  have hz : (w.alloc (.cells #[.pointer none, .slice none 0 0] 58)).heap.size = w.heap.size + 1 := by simp
  obtain ⟨W0, hW⟩ : ∃ W0, W0 = w.alloc (.cells #[.pointer none, .slice none 0 0] 58) := ⟨_, rfl⟩
  rw [← hW] at H0 hb0 hz ⊢
  have H1 := laidI_one (N : Int) W0 AN.out
  rw [hz] at H1
  clear hW
  refine H1.mono ?_
  rintro e w1 ⟨rfl, hb1⟩
  rw [← hz] at hb1
  have B1 := Lib.hid (H0.out.up hb1)
  have C1 := Lib.hid (up2 hb0.out hb1)
  clear hb1 hz
  go_wp2_with fail
  refine (B1.out.write (enc (fold (N : Int))) (by have := nl_ten AN.out; unfold nl at this; simp; omega)).mono ?_
  rintro e w2 ⟨rfl, hb2, hb3⟩
  have D2 : Hid (Bld w2 w.heap.size w.heap.size (enc (fold (N : Int)) ++ flatL (ls (xs.take 0))) ∧ Below w.heap.size w w2) := ⟨by simpa [ls, flatL] using hb2, C1.out.trans hb3⟩
  clear hb2 hb3
  go_wp2_with fail
  go_loopw [21] (fun i wr => ∃ k : Nat, k ≤ N ∧ i = .int .i64 (k : Int) ∧ Hid (Bld wr w.heap.size w.heap.size (enc (fold (N : Int)) ++ flatL (ls (xs.take k))) ∧ Below w.heap.size w wr)) (fun i _ => N - (intOf i).toNat)
  case atStart => exact ⟨0, Nat.zero_le _, rfl, D2.out⟩
  case round =>
    obtain ⟨k, hk, rfl, HI⟩ := hrel
    by_cases hlt : k < N
    · have hkx : k < xs.length := by rw [← HL.out]; exact hlt
      obtain ⟨b, o, rfl, hcell⟩ := (HX.out.up HI.out.2).at hkx
      have hnx := ls_next xs k hkx
      have htn := tot_next xs k hkx
      have htk := tot_take xs (k + 1)
      obtain ⟨x, hx⟩ : ∃ x, x = xs[k] := ⟨_, rfl⟩
      rw [← hx] at hcell hnx htn
      have hx6 : x.size ≤ 1048576 := by have := HO.out.2; omega
      have HF : Hid (enc (fold (N : Int)) ++ flatL (ls (xs.take k)) ++ enc (fold (x.size : Nat)) ++ x.data.toList = enc (fold (N : Int)) ++ flatL (ls (xs.take (k + 1)))) := by
        show _ = _
        rw [hnx, flatL_app, flatL_one, itm, list_size]
        simp only [List.append_assoc]
      have AX : Hid (Am (x.size : Int)) := am_nat (by omega)
      have HLk := Lib.hid (HLe.out k)
      have H2 := laidI_one (x.size : Int) wr AX.out
      have hxs : Hid (str x.data.toList = x) := str_of x
      clear hnx htn htk hx
      go_wp2_with fail
      refine H2.mono ?_
      rintro e w3 ⟨rfl, hb1⟩
      have HB := Lib.hid (HI.out.1.up hb1)
      have HC := Lib.hid (up2 HI.out.2 hb1)
      clear hb1 H2
      go_wp2_with fail
      refine (HB.out.write (enc (fold (x.size : Int))) (by have := HLk.out; have := nl_ten AX.out; unfold nl at this; omega)).mono ?_
      rintro e w4 ⟨rfl, hb2, hb3⟩
      have HB4 := Lib.hid hb2
      have HC4 := Lib.hid (HC.out.trans hb3)
      clear hb2 hb3
      have H5 := HB4.out.write x.data.toList (by have := HLk.out; have := nl_ten AX.out; unfold nl at this; rw [list_size, List.length_append]; omega)
      rw [hxs.out] at H5
      go_wp2_with fail
      refine H5.mono ?_
      rintro e w5 ⟨rfl, hb2, hb3⟩
      rw [HF.out] at hb2
      have HD := Lib.hid (And.intro hb2 (HC4.out.trans hb3))
      clear hb2 hb3 H5
      go_wp2
      go_roundw
      case rel => exact ⟨k + 1, by omega, by go_num, HD⟩
      case measure => simp [intOf]; omega
    · have HD : Hid (Bld wr w.heap.size w.heap.size (lstL (ls xs)) ∧ Below w.heap.size w wr) := by
        have := HI.out
        rw [List.take_of_length_le (by have := HL.out; omega), HS.out] at this
        exact this
      clear HI
      go_wp2_with fail
      refine HD.out.1.told.mono ?_
      rintro e w6 ⟨rfl, hb6⟩
      go_wp2
      go_ret2
      exact ⟨rfl, HD.out.2.trans hb6⟩
theorem list_no (a : Option Addr) (c : Nat) (xs : List ByteArray) (w : World) (hX : StrA w a xs) (hno : ¬ LsOk (ls xs)) :
    Calls Try.prog 18 #[.slice a xs.length c] w fun e w' => e = .returned (.tuple #[.string ⟨#[]⟩, .int .i64 4]) ∧ Below w.heap.size w w' := by
  by_cases hN1 : xs.length ≤ 1000
  · have HTL := Lib.hid (tooLong_any a c xs w hX hN1)
    rw [decide_eq_true (by unfold LsOk at hno; rw [ls_len] at hno; omega)] at HTL
    obtain ⟨N, hN⟩ : ∃ N, N = xs.length := ⟨_, rfl⟩
    rw [← hN] at hN1 HTL ⊢
    have h0 : ¬ ((1000 : Int) < (N : Int)) := by omega
    clear hX hN hno
    go_enter Try.func18, Try.ntmps18
    go_wp2_with fail
    refine HTL.out.mono ?_
    rintro e w' ⟨rfl, rfl⟩
    go_wp2
    go_ret2
    exact ⟨rfl, Below.refl _ _⟩
  · obtain ⟨N, hN⟩ : ∃ N, N = xs.length := ⟨_, rfl⟩
    rw [← hN] at hN1 ⊢
    have h0 : (1000 : Int) < (N : Int) := by omega
    clear hX hN hno
    go_enter Try.func18, Try.ntmps18
    go_wp2
    go_ret2
    exact ⟨rfl, Below.refl _ _⟩
end Go.Proofs.Ytmfgdpbnnlmjhaa
