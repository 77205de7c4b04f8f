/- What the laws call besides: whether blocks are too many, and the calls whose answers the document fixes. -/
import Derived.Test.YtmbnofhieminkaaDoorRcJ
import Derived.Test.YtmbnofhieminkaaDoorRcQ
namespace Go.Proofs.YtmbnofhieminkaaDoor
open Go.RowKit

def tot (xs : List ByteArray) : Nat := (xs.map fun x => x.size + 1).sum
theorem tot_snoc (xs : List ByteArray) {k : Nat} (h : k < xs.length) : tot (xs.take (k + 1)) = tot (xs.take k) + (xs[k].size + 1) := by
  unfold tot
  rw [List.take_succ_eq_append_getElem h, List.map_append, List.sum_append]
  simp
theorem tot_len (xs : List ByteArray) : xs.length ≤ tot xs := by
  induction xs with
  | nil => simp [tot]
  | cons x r ih => simp only [tot, List.map_cons, List.sum_cons, List.length_cons] at ih ⊢; omega
theorem tot_mem (xs : List ByteArray) : ∀ x ∈ xs, x.size ≤ tot xs := by
  induction xs with
  | nil => intro x h; cases h
  | cons y r ih =>
    intro x hx
    simp only [tot, List.map_cons, List.sum_cons] at ih ⊢
    rcases List.mem_cons.mp hx with rfl | h
    · omega
    · have := ih x h; omega
def LargeIs (xs : List ByteArray) (w : World) (e : Ending) (w' : World) : Prop := ∃ B : Bool, e = .returned (.bool B) ∧ (B = false → tot xs ≤ 3000) ∧ w = w'
set_option maxHeartbeats 2000000 in
theorem large_any (a : Option Addr) (c : Nat) (xs : List ByteArray) (w : World) (hS : ∀ b o, a = some ⟨b, o, none⟩ → Strs w b o xs) (ha : xs ≠ [] → ∃ b o, a = some ⟨b, o, none⟩) (hN : xs.length ≤ 140737488355328) (hsz : ∀ x ∈ xs, x.size ≤ 140737488355328) :
    Calls Tryd.prog 7 #[.slice a xs.length c] w (LargeIs xs w) := by
  obtain ⟨N, hNe⟩ : ∃ N, N = xs.length := ⟨_, rfl⟩
  rw [← hNe] at hN ⊢
  have HS := Lib.hid (And.intro hS (And.intro ha (And.intro hNe hsz)))
  clear hS ha hNe hsz
  go_enter Tryd.func7, Tryd.ntmps7
  go_wp2
  go_loop [3, 4] (fun y i => ∃ k z : Nat, k ≤ N ∧ z ≤ 150000000000000 ∧ Hid (z = tot (xs.take k)) ∧ i = .int .i64 (k : Int) ∧ y = .int .i64 (z : Int)) (fun _ i => N - (intOf i).toNat)
  case atStart => exact ⟨0, 0, Nat.zero_le _, by omega, rfl, rfl, rfl⟩
  case round =>
    obtain ⟨k, z, hk, hz, HZ, rfl, rfl⟩ := hrel
    by_cases hlt : k < N
    · by_cases hm : z ≤ 3000
      · have hkx : k < xs.length := by rw [← HS.out.2.2.1]; exact hlt
        obtain ⟨b, o, rfl⟩ := HS.out.2.1 (by intro e; rw [e] at hkx; simp at hkx)
        obtain ⟨x, hx⟩ : ∃ x, x = xs[k] := ⟨_, rfl⟩
        have hc : w.cell? ⟨b, o + k, none⟩ = some (.string x) := by rw [hx]; exact (HS.out.1 b o rfl).at hkx
        have hxs : x.size ≤ 140737488355328 := by rw [hx]; exact HS.out.2.2.2 _ (List.getElem_mem hkx)
        have HA : Hid (z + (x.size + 1) = tot (xs.take (k + 1))) := by show _ = _; rw [tot_snoc xs hkx, HZ.out, hx]
        clear hx HZ
        go_wp2
        go_round
        case rel => exact ⟨k + 1, z + (x.size + 1), by omega, by omega, HA, by go_num, by go_num⟩
        case measure => simp [intOf]; omega
      · go_wp2
        go_ret
        exact ⟨true, rfl, (fun h => by cases h), rfl⟩
    · have HA : Hid (z = tot xs) := by
        have := HZ.out
        rwa [show k = N by omega, HS.out.2.2.1, List.take_length] at this
      clear HZ
      go_wp2
      go_ret
      exact ⟨decide (3000 < (z : Int)), rfl, (fun h => by rw [← HA.out]; simp at h; omega), rfl⟩

def ab : ByteArray := ⟨#[97, 98]⟩
theorem ab_list : ab.data.toList = [97, 98] := rfl
theorem ab_len (m : Bool) : layX [97, 98] m = [str (blkL (wholeL [97, 98] m) 0)] := rfl
theorem crc_nine : crc [49, 50, 51, 52, 53, 54, 55, 56, 57] = 3421780262 := by decide +kernel

set_option maxHeartbeats 8000000 in
theorem awake_any (w : World) (hT : Tb w) :
    Calls Tryd.prog 6 #[] w fun e w' => e = .returned (.bool true) ∧ Below w.heap.size w w' := by
  have HT := Lib.hid hT
  clear hT
  have HL : Hid (∀ (W : World) (m : Bool), Tb W → Calls Tryd.prog 8 #[.string ⟨#[97, 98]⟩, .bool m] W fun e w' => e = .returned (.tuple #[.slice (some ⟨W.heap.size, 0, none⟩) 1 1, .int .i64 0]) ∧ Has w' W.heap.size 9 (rowA (layX [97, 98] m)) ∧ Below W.heap.size W w') := fun W m q => lay_any ⟨#[97, 98]⟩ m W (by decide) q
  obtain ⟨x, hx⟩ : ∃ x, x = str (blkL (wholeL [97, 98] true) 0) := ⟨_, rfl⟩
  obtain ⟨y, hy⟩ : ∃ y, y = str (blkL (wholeL [97, 98] false) 0) := ⟨_, rfl⟩
  have ex : layX [97, 98] true = [x] := by rw [hx]; rfl
  have ey : layX [97, 98] false = [y] := by rw [hy]; rfl
  have sx : x.size = 64 := by rw [hx, str_size]; decide +kernel
  have sy : y.size = 64 := by rw [hy, str_size]; decide +kernel
  have hx1 : headA x.data.toList = (true, 2, 0) := by rw [hx, str_list]; decide +kernel
  have hy1 : headA y.data.toList = (false, 0, 0) := by rw [hy, str_list]; decide +kernel
  have jx : joinA (rows [x]) = ([97, 98], 0) := by rw [← ex, rows_lay]; exact join_laid (by decide)
  have HHx : Hid (∀ W : World, Calls Tryd.prog 12 #[.string x] W fun e w' => e = .returned (.tuple #[.bool true, .int .i64 2, .int .i64 0]) ∧ W = w') := fun W => by have := head_any x W; rw [hx1] at this; exact this
  have HHy : Hid (∀ W : World, Calls Tryd.prog 12 #[.string y] W fun e w' => e = .returned (.tuple #[.bool false, .int .i64 0, .int .i64 0]) ∧ W = w') := fun W => by have := head_any y W; rw [hy1] at this; exact this
  have HJ : Hid (∀ (W : World) (b : Nat), Strs W b 0 [x] → Tb W → Calls Tryd.prog 10 #[.slice (some ⟨b, 0, none⟩) 1 1] W fun e w' => e = .returned (.tuple #[.string ⟨#[97, 98]⟩, .int .i64 0]) ∧ Below W.heap.size W w') := fun W b q r => by
    have := join_any b 0 1 [x] W q (by simp) (by simp) r
    rw [jx] at this
    exact this
  have HC : Hid (∀ (W : World), Tb W → Calls Tryd.prog 14 #[.string ⟨#[49, 50, 51, 52, 53, 54, 55, 56, 57]⟩] W fun e w' => e = .returned (.int .u32 3421780262) ∧ W = w') := fun W q => by
    have := chk_any ⟨#[49, 50, 51, 52, 53, 54, 55, 56, 57]⟩ W (by unfold maxLen; decide) q
    rw [show crc (⟨#[49, 50, 51, 52, 53, 54, 55, 56, 57]⟩ : ByteArray).data.toList = 3421780262 from crc_nine] at this
    exact this
  have HX := Lib.hid (And.intro ex ey)
  clear hx hy ex ey hx1 hy1 jx
  have sx' : 64 ≤ x.size := by omega
  have tx : ((x.size : Int) != 64) = false := by rw [sx]; rfl
  have ty : ((y.size : Int) != 64) = false := by rw [sy]; rfl
  clear sx sy
  go_enter Tryd.func6, Tryd.ntmps6
  go_wp2_with fail
  refine (HL.out w true HT.out).mono ?_
  rintro e w1 ⟨rfl, hh1, hb1⟩
  obtain ⟨b1, hb1e⟩ : ∃ b1, b1 = w.heap.size := ⟨_, rfl⟩
  rw [← hb1e]
  rw [HX.out.1, ← hb1e] at hh1
  have B1 := Lib.hid hb1
  have H1 := Lib.hid hh1
  clear hb1 hh1 hb1e
  go_wp2_with fail
  refine (HL.out w1 false (HT.out.up B1.out)).mono ?_
  rintro e w2 ⟨rfl, hh2, hb2⟩
  obtain ⟨b2, hb2e⟩ : ∃ b2, b2 = w1.heap.size := ⟨_, rfl⟩
  rw [← hb2e]
  rw [HX.out.2, ← hb2e] at hh2
  have H3 := Lib.hid (And.intro (H1.out.up hb2).strs hh2.strs)
  have B2 := Lib.hid (up2 B1.out hb2)
  have c1 : w2.cell? ⟨b1, 0, none⟩ = some (.string x) := H3.out.1 0 x rfl
  have c2 : w2.cell? ⟨b2, 0, none⟩ = some (.string y) := H3.out.2 0 y rfl
  clear hb2 hh2 hb2e B1 H1
  go_wp2_with fail
  refine (HHx.out w2).mono ?_
  rintro e w' ⟨rfl, rfl⟩
  go_wp2_with fail
  refine (HHy.out w2).mono ?_
  rintro e w' ⟨rfl, rfl⟩
  go_wp2_with fail
  refine (HJ.out w2 b1 H3.out.1 (HT.out.up B2.out)).mono ?_
  rintro e w3 ⟨rfl, hb3⟩
  have B3 := Lib.hid (up2 B2.out hb3)
  clear hb3 c1 c2
  go_wp2_with fail
  refine (join_none none 0 w3).mono ?_
  rintro e w' ⟨rfl, rfl⟩
  go_wp2_with fail
  refine (HC.out w3 (HT.out.up B3.out)).mono ?_
  rintro e w' ⟨rfl, rfl⟩
  go_wp2_with fail
  refine (blk_any 57 w3).mono ?_
  rintro e w' ⟨rfl, rfl⟩
  rw [show nbI 57 = 1 from rfl]
  go_wp2_with fail
  refine (blk_any 58 w3).mono ?_
  rintro e w' ⟨rfl, rfl⟩
  rw [show nbI 58 = 2 from rfl]
  go_wp2
  go_ret
  exact ⟨rfl, B3.out⟩
end Go.Proofs.YtmbnofhieminkaaDoor
