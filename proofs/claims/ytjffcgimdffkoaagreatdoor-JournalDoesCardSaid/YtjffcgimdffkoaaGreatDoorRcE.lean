/- The bytes of blocks: the program's Join. -/
import Derived.Test.YtjffcgimdffkoaaGreatDoorRcD
namespace Go.Proofs.YtjffcgimdffkoaaGreatDoor
open Go.RowKit

def zerosB (l : List UInt8) : Bool := l.all (· == 0)
theorem trim_zero (l : List UInt8) : (Lib.trimB l 0 = []) ↔ zerosB l = true := by
  have h : ∀ m : List UInt8, m.dropWhile (· == 0) = [] ↔ m.all (· == 0) = true := by
    intro m
    induction m with
    | nil => simp
    | cons c m ih =>
      by_cases q : (c == 0) = true
      · rw [List.dropWhile_cons_of_pos (p := fun x => x == 0) q, ih]; simp [q]
      · rw [List.dropWhile_cons_of_neg (p := fun x => x == 0) q]; simp [q]
  have g : ∀ m : List UInt8, (m.dropWhile (· == 0)).all (· == 0) = true ↔ m.all (· == 0) = true := by
    intro m
    induction m with
    | nil => simp
    | cons c m ih =>
      by_cases q : (c == 0) = true
      · rw [List.dropWhile_cons_of_pos (p := fun x => x == 0) q, ih]; simp [q]
      · rw [List.dropWhile_cons_of_neg (p := fun x => x == 0) q]
  unfold Lib.trimB Lib.trimLeftB Lib.trimRightB zerosB
  rw [h, List.all_reverse, g, List.all_reverse]
theorem join_flat (xs : List (List UInt8)) : Lib.join xs [] = xs.flatten := by
  unfold Lib.join
  cases xs with
  | nil => rfl
  | cons x r =>
    induction r generalizing x with
    | nil => simp [List.intercalate]
    | cons y r ih =>
      have := ih y
      simp only [List.intercalate, List.intersperse_cons_cons, List.flatten_cons, List.nil_append] at this ⊢
      rw [this]

/-- the bytes of blocks, or why there are none -/
def joinA (xs : List (List UInt8)) : List UInt8 × Nat :=
  if xs = [] ∨ xs.any (fun x => x.length != 64) = true then ([], 2)
  else if (headA (xs.headD [])).2.2 ≠ 0 then ([], (headA (xs.headD [])).2.2)
  else if (headA (xs.headD [])).1 = false ∨ xs.length ≠ nb (headA (xs.headD [])).2.1 then ([], 2)
  else if num ((xs.flatten.drop 3).take 4) ≠ crc ((xs.flatten.drop 7).take (headA (xs.headD [])).2.1) ∨ zerosB (xs.flatten.drop (7 + (headA (xs.headD [])).2.1)) = false then ([], 8)
  else ((xs.flatten.drop 7).take (headA (xs.headD [])).2.1, 0)
def joinV (a : List UInt8 × Nat) : Value := .tuple #[.string (str a.1), .int .i64 (a.2 : Int)]
/-- strings as rows of bytes -/
def rows (xs : List ByteArray) : List (List UInt8) := xs.map (·.data.toList)

theorem odd_pred (w : World) : PredAt Tryz.prog 70 #[] Value.string (fun s => (s.size : Int) != 64) w := fun W x _ =>
  (odd_any x W).mono fun _ _ ⟨a, b⟩ => ⟨a, 0, by rw [← b]; rfl⟩
theorem cont_any (b o c : Nat) (xs : List ByteArray) (w : World) (hS : Strs w b o xs) (hN : xs.length ≤ 9223372036854775807) :
    Calls Tryz.prog 73 #[.slice (some ⟨b, o, none⟩) xs.length c, .func (.func 70) #[] #[]] w fun e w' => e = .returned (.bool ((rows xs).any (fun x => x.length != 64))) ∧ ∃ q, w' = w.drewN q := by
  have := Tryz.slices_ContainsFunc Value.string (fun s => (s.size : Int) != 64) 70 #[] (fun args w => by kernel_rfl) b o xs.length c xs w (odd_pred w) (Nat.le_refl _) hN (fun j hj => by
    have := hS.at hj
    rw [this, getElem!_pos xs j hj])
  have e : (rows xs).any (fun x => x.length != 64) = (xs.take xs.length).any (fun s => (s.size : Int) != 64) := by
    rw [List.take_length, rows, List.any_map]
    congr 1
    funext s
    show (s.data.toList.length != 64) = ((s.size : Int) != 64)
    rw [list_size, Bool.eq_iff_iff]
    simp; omega
  rw [e]
  exact this

set_option maxHeartbeats 1000000 in
theorem join_none (a : Option Addr) (c : Nat) (w : World) :
    Calls Tryz.prog 55 #[.slice a 0 c] w fun e w' => e = .returned (.tuple #[.string ⟨#[]⟩, .int .i64 2]) ∧ w = w' := by
  go_enter Tryz.func55, Tryz.ntmps55
  go_wp2
  go_ret2
  exact ⟨rfl, rfl⟩
set_option maxHeartbeats 1000000 in
theorem join_odd (b o c : Nat) (xs : List ByteArray) (w : World) (hS : Strs w b o xs) (h0 : 0 < xs.length) (hN : xs.length ≤ 100000) (h : (rows xs).any (fun x => x.length != 64) = true) :
    Calls Tryz.prog 55 #[.slice (some ⟨b, o, none⟩) xs.length c] w fun e w' => e = .returned (.tuple #[.string ⟨#[]⟩, .int .i64 2]) ∧ Below w.heap.size w w' := by
  have HC := Lib.hid (cont_any b o c xs w hS (by omega))
  rw [h] at HC
  obtain ⟨N, hNe⟩ : ∃ N, N = xs.length := ⟨_, rfl⟩
  rw [← hNe] at HC h0 hN ⊢
  clear h hS hNe
  go_enter Tryz.func55, Tryz.ntmps55
  go_wp2_with fail
  refine HC.out.mono ?_
  rintro e w' ⟨rfl, q, rfl⟩
  go_wp2
  go_ret2
  exact ⟨rfl, blw (Below.refl _ _) q⟩

set_option maxHeartbeats 1000000 in
/-- what its first block tells, if that is an error -/
theorem join_head (b o c : Nat) (xs : List ByteArray) (x0 : ByteArray) (w : World) (hS : Strs w b o xs) (hx : xs[0]? = some x0) (hN : xs.length ≤ 100000) (h : (rows xs).any (fun x => x.length != 64) = false)
    (m : Bool) (k e : Nat) (hh : headA x0.data.toList = (m, k, e)) (he : ((e : Int) != 0) = true) :
    Calls Tryz.prog 55 #[.slice (some ⟨b, o, none⟩) xs.length c] w fun r w' => r = .returned (.tuple #[.string ⟨#[]⟩, .int .i64 (e : Int)]) ∧ Below w.heap.size w w' := by
  have HC := Lib.hid (cont_any b o c xs w hS (by omega))
  rw [h] at HC
  have h0 : 0 < xs.length := by
    rcases Nat.eq_zero_or_pos xs.length with q | q
    · rw [List.getElem?_eq_none (by omega)] at hx; cases hx
    · exact q
  have HH : Hid (∀ W : World, Calls Tryz.prog 53 #[.string x0] W fun r w' => r = .returned (.tuple #[.bool m, .int .i64 (k : Int), .int .i64 (e : Int)]) ∧ W = w') := fun W => by have := head_any x0 W; rw [hh] at this; exact this
  have hc := hS 0 x0 hx
  rw [Nat.add_zero] at hc
  obtain ⟨N, hNe⟩ : ∃ N, N = xs.length := ⟨_, rfl⟩
  rw [← hNe] at HC h0 hN ⊢
  clear h hS hNe hx hh
  go_enter Tryz.func55, Tryz.ntmps55
  go_wp2_with fail
  refine HC.out.mono ?_
  rintro r w' ⟨rfl, q, rfl⟩
  obtain ⟨W0, hW⟩ : ∃ W0, W0 = w.drewN q := ⟨_, rfl⟩
  have hc0 : W0.cell? ⟨b, o, none⟩ = some (.string x0) := by rw [hW]; simpa using hc
  have hB := Lib.hid (show Below w.heap.size w W0 by rw [hW]; exact blw (Below.refl _ _) q)
  rw [← hW]
  clear hW hc
  go_wp2_with fail
  refine (HH.out W0).mono ?_
  rintro r w' ⟨rfl, rfl⟩
  go_wp2
  go_ret2
  exact ⟨rfl, hB.out⟩

set_option maxHeartbeats 1000000 in
/-- its mark is 0 -/
theorem join_idle (b o c : Nat) (xs : List ByteArray) (x0 : ByteArray) (w : World) (hS : Strs w b o xs) (hx : xs[0]? = some x0) (hN : xs.length ≤ 100000) (h : (rows xs).any (fun x => x.length != 64) = false)
    (k : Nat) (hh : headA x0.data.toList = (false, k, 0)) :
    Calls Tryz.prog 55 #[.slice (some ⟨b, o, none⟩) xs.length c] w fun r w' => r = .returned (.tuple #[.string ⟨#[]⟩, .int .i64 2]) ∧ Below w.heap.size w w' := by
  have HC := Lib.hid (cont_any b o c xs w hS (by omega))
  rw [h] at HC
  have h0 : 0 < xs.length := by
    rcases Nat.eq_zero_or_pos xs.length with q | q
    · rw [List.getElem?_eq_none (by omega)] at hx; cases hx
    · exact q
  have HH : Hid (∀ W : World, Calls Tryz.prog 53 #[.string x0] W fun r w' => r = .returned (.tuple #[.bool false, .int .i64 (k : Int), .int .i64 0]) ∧ W = w') := fun W => by have := head_any x0 W; rw [hh] at this; exact this
  have hc := hS 0 x0 hx
  rw [Nat.add_zero] at hc
  obtain ⟨N, hNe⟩ : ∃ N, N = xs.length := ⟨_, rfl⟩
  rw [← hNe] at HC h0 hN ⊢
  clear h hS hNe hx hh
  go_enter Tryz.func55, Tryz.ntmps55
  go_wp2_with fail
  refine HC.out.mono ?_
  rintro r w' ⟨rfl, q, rfl⟩
  obtain ⟨W0, hW⟩ : ∃ W0, W0 = w.drewN q := ⟨_, rfl⟩
  have hc0 : W0.cell? ⟨b, o, none⟩ = some (.string x0) := by rw [hW]; simpa using hc
  have hB := Lib.hid (show Below w.heap.size w W0 by rw [hW]; exact blw (Below.refl _ _) q)
  rw [← hW]
  clear hW hc
  go_wp2_with fail
  refine (HH.out W0).mono ?_
  rintro r w' ⟨rfl, rfl⟩
  go_wp2
  go_ret2
  exact ⟨rfl, hB.out⟩

set_option maxHeartbeats 1000000 in
/-- there are not as many blocks as it tells -/
theorem join_many (b o c : Nat) (xs : List ByteArray) (x0 : ByteArray) (w : World) (hS : Strs w b o xs) (hx : xs[0]? = some x0) (hN : xs.length ≤ 100000) (h : (rows xs).any (fun x => x.length != 64) = false)
    (k : Nat) (hh : headA x0.data.toList = (true, k, 0)) (hk : k ≤ 40000) (hn : xs.length ≠ nb k) :
    Calls Tryz.prog 55 #[.slice (some ⟨b, o, none⟩) xs.length c] w fun r w' => r = .returned (.tuple #[.string ⟨#[]⟩, .int .i64 2]) ∧ Below w.heap.size w w' := by
  have HC := Lib.hid (cont_any b o c xs w hS (by omega))
  rw [h] at HC
  have h0 : 0 < xs.length := by
    rcases Nat.eq_zero_or_pos xs.length with q | q
    · rw [List.getElem?_eq_none (by omega)] at hx; cases hx
    · exact q
  have HH : Hid (∀ W : World, Calls Tryz.prog 53 #[.string x0] W fun r w' => r = .returned (.tuple #[.bool true, .int .i64 (k : Int), .int .i64 0]) ∧ W = w') := fun W => by have := head_any x0 W; rw [hh] at this; exact this
  have hc := hS 0 x0 hx
  rw [Nat.add_zero] at hc
  obtain ⟨N, hNe⟩ : ∃ N, N = xs.length := ⟨_, rfl⟩
  rw [← hNe] at HC h0 hN hn ⊢
  obtain ⟨M, hM⟩ : ∃ M : Nat, M = nb k := ⟨_, rfl⟩
  have hMI : nbI (k : Int) = (M : Int) := by rw [hM]; unfold nbI nb; rw [if_neg (by omega)]; omega
  have HB : Hid (∀ W : World, Calls Tryz.prog 36 #[.int .i64 (k : Int)] W fun r w' => r = .returned (.int .i64 (M : Int)) ∧ W = w') := fun W => by have := blk_any (k : Int) W; rw [hMI] at this; exact this
  have hne : ((N : Int) != (M : Int)) = true := by rw [← hM] at hn; simp; omega
  clear h hS hNe hx hh hM hn hMI
  go_enter Tryz.func55, Tryz.ntmps55
  go_wp2_with fail
  refine HC.out.mono ?_
  rintro r w' ⟨rfl, q, rfl⟩
  obtain ⟨W0, hW⟩ : ∃ W0, W0 = w.drewN q := ⟨_, rfl⟩
  have hc0 : W0.cell? ⟨b, o, none⟩ = some (.string x0) := by rw [hW]; simpa using hc
  have hB := Lib.hid (show Below w.heap.size w W0 by rw [hW]; exact blw (Below.refl _ _) q)
  rw [← hW]
  clear hW hc
  go_wp2_with fail
  refine (HH.out W0).mono ?_
  rintro r w' ⟨rfl, rfl⟩
  go_wp2_with fail
  refine (HB.out W0).mono ?_
  rintro r w' ⟨rfl, rfl⟩
  go_wp2
  go_ret2
  exact ⟨rfl, hB.out⟩
end Go.Proofs.YtjffcgimdffkoaaGreatDoor
