/- A record's bytes, plain: numbers and their bytes; blocks and their bytes; what is joined of what was laid, and of what was laid and turned. -/
import Derived.Test.YtjffcgimdffkoaaGreatDoorRcE
namespace Go.Proofs.YtjffcgimdffkoaaGreatDoor

theorem nb_pos (n : Nat) : 0 < nb n := by unfold nb; omega
theorem num_cons (c : UInt8) (l : List UInt8) : num (c :: l) = c.toNat * 256 ^ l.length + num l := by
  have h : ∀ (l : List UInt8) (n : Nat), l.foldl (fun n c => 256 * n + c.toNat) n = n * 256 ^ l.length + num l := by
    intro l
    induction l with
    | nil => intro n; simp [num]
    | cons d l ih =>
      intro n
      have a := ih (256 * n + d.toNat)
      have b := ih d.toNat
      have e : num (d :: l) = l.foldl (fun n c => 256 * n + c.toNat) d.toNat := by simp [num]
      rw [e, b, List.foldl_cons, a, List.length_cons, Nat.pow_succ, Nat.add_mul]
      have : 256 * n * 256 ^ l.length = n * (256 ^ l.length * 256) := by rw [Nat.mul_comm 256 n, Nat.mul_assoc, Nat.mul_comm 256]
      omega
  have := h l c.toNat
  have e : num (c :: l) = l.foldl (fun n c => 256 * n + c.toNat) c.toNat := by simp [num]
  rw [e, this]
theorem be_mod (k : Nat) : ∀ a n, be k (a * 256 ^ k + n) = be k n := by
  induction k with
  | zero => intros; rfl
  | succ k ih =>
    intro a n
    unfold be
    have e : a * 256 ^ (k + 1) + n = (a * 256) * 256 ^ k + n := by rw [Nat.pow_succ, Nat.mul_assoc, Nat.mul_comm 256 (256 ^ k)]
    rw [e, ih]
    congr 1
    apply UInt8.toNat_inj.mp
    have hp : 0 < 256 ^ k := Nat.pow_pos (by omega)
    rw [UInt8.toNat_ofNat', UInt8.toNat_ofNat', Nat.add_comm, Nat.add_mul_div_right _ _ hp]
    omega
theorem be_num (l : List UInt8) : be l.length (num l) = l := by
  induction l with
  | nil => rfl
  | cons c l ih =>
    rw [num_cons, List.length_cons]
    unfold be
    have hp : 0 < 256 ^ l.length := Nat.pow_pos (by omega)
    have hl := num_lt l
    rw [be_mod, ih, Nat.add_comm, Nat.add_mul_div_right _ _ hp, Nat.div_eq_of_lt hl, Nat.zero_add]
    congr 1
    apply UInt8.toNat_inj.mp
    have := c.toNat_lt
    rw [UInt8.toNat_ofNat']
    omega
theorem num_be (k n : Nat) (h : n < 256 ^ k) : num (be k n) = n := by
  induction k generalizing n with
  | zero => simp at h; subst h; rfl
  | succ k ih =>
    have hp : 0 < 256 ^ k := Nat.pow_pos (by omega)
    have e : n = n / 256 ^ k * 256 ^ k + n % 256 ^ k := by rw [Nat.mul_comm]; exact (Nat.div_add_mod n (256 ^ k)).symm
    have hq : n / 256 ^ k < 256 := by rw [Nat.div_lt_iff_lt_mul hp, Nat.mul_comm, ← Nat.pow_succ]; exact h
    have hm := Nat.mod_lt n hp
    have b : be k n = be k (n % 256 ^ k) := by rw [show be k n = be k (n / 256 ^ k * 256 ^ k + n % 256 ^ k) by rw [← e], be_mod]
    unfold be
    rw [num_cons, b, ih _ hm, be_len, UInt8.toNat_ofNat']
    rw [Nat.mod_eq_of_lt (show n / 256 ^ k < 2 ^ 8 from hq)]
    exact e.symm
theorem num_inj {l m : List UInt8} (h : l.length = m.length) (e : num l = num m) : l = m := by
  rw [← be_num l, ← be_num m, h, e]

/-- joined of a row of bytes, so many blocks -/
def joinF (S : List UInt8) (n : Nat) : List UInt8 × Nat :=
  if (headA (S.take 64)).2.2 ≠ 0 then ([], (headA (S.take 64)).2.2)
  else if (headA (S.take 64)).1 = false ∨ n ≠ nb (headA (S.take 64)).2.1 then ([], 2)
  else if num ((S.drop 3).take 4) ≠ crc ((S.drop 7).take (headA (S.take 64)).2.1) ∨ zerosB (S.drop (7 + (headA (S.take 64)).2.1)) = false then ([], 8)
  else ((S.drop 7).take (headA (S.take 64)).2.1, 0)
/-- all blocks are whole -/
def All64 (xs : List (List UInt8)) : Prop := ∀ x ∈ xs, x.length = 64
theorem all_any (xs : List (List UInt8)) : All64 xs ↔ xs.any (fun x => x.length != 64) = false := by
  unfold All64
  simp
theorem joinA_F {xs : List (List UInt8)} (h : All64 xs) (h0 : xs ≠ []) : joinA xs = joinF xs.flatten xs.length := by
  have e : xs.headD [] = xs.flatten.take 64 := by
    cases xs with
    | nil => exact absurd rfl h0
    | cons x r =>
      have := h x (by simp)
      rw [List.headD_cons, List.flatten_cons, List.take_append_of_le_length (by omega), List.take_of_length_le (by omega)]
  unfold joinA joinF
  rw [if_neg (by rw [(all_any xs).mp h]; exact fun q => q.elim h0 (fun z => by cases z)), e]
theorem All64.len {xs : List (List UInt8)} (h : All64 xs) : xs.flatten.length = 64 * xs.length := by
  induction xs with
  | nil => rfl
  | cons x r ih =>
    have a := ih (fun y hy => h y (by simp [hy]))
    have b := h x (by simp)
    rw [List.flatten_cons, List.length_append, a, b, List.length_cons]; omega
/-- each block is where it is -/
theorem All64.at {xs : List (List UInt8)} (h : All64 xs) (i : Nat) (hi : i < xs.length) : xs[i] = blkL xs.flatten i := by
  induction xs generalizing i with
  | nil => simp at hi
  | cons x r ih =>
    have hx := h x (by simp)
    cases i with
    | zero => unfold blkL; rw [List.flatten_cons, Nat.mul_zero, List.drop_zero, List.take_append_of_le_length (by omega), List.take_of_length_le (by omega)]; rfl
    | succ i =>
      have a := ih (fun y hy => h y (by simp [hy])) i (by simpa using hi)
      rw [List.getElem_cons_succ, a]
      unfold blkL
      rw [List.flatten_cons, List.drop_append, hx, show 64 * (i + 1) - 64 = 64 * i by omega, List.drop_of_length_le (show x.length ≤ 64 * (i + 1) by omega)]
      rfl
theorem blk_len {W : List UInt8} {n i : Nat} (h : W.length = 64 * n) (hi : i < n) : (blkL W i).length = 64 := by
  unfold blkL; rw [List.length_take, List.length_drop, h]; omega
theorem chunks {W : List UInt8} (n : Nat) (h : W.length = 64 * n) : ((List.range n).map (blkL W)).flatten = W := by
  have g : ∀ k, k ≤ n → ((List.range k).map (blkL W)).flatten = W.take (64 * k) := by
    intro k
    induction k with
    | zero => intro; simp
    | succ k ih =>
      intro hk
      rw [List.range_succ, List.map_append, List.flatten_append, ih (by omega)]
      simp only [List.map_cons, List.map_nil, List.flatten_cons, List.flatten_nil, List.append_nil, blkL]
      rw [show 64 * (k + 1) = 64 * k + 64 by omega, List.take_add]
  rw [g n (Nat.le_refl _), List.take_of_length_le (by omega)]
/-- a record's blocks as rows of bytes -/
def layL (l : List UInt8) (m : Bool) : List (List UInt8) := (List.range (nb l.length)).map (blkL (wholeL l m))
theorem rows_lay (l : List UInt8) (m : Bool) : rows (layX l m) = layL l m := by
  unfold rows layX layL
  rw [List.map_map]
  congr 1
theorem layL_len (l : List UInt8) (m : Bool) : (layL l m).length = nb l.length := by simp [layL]
theorem layL_all (l : List UInt8) (m : Bool) : All64 (layL l m) := fun x hx => by
  unfold layL at hx
  obtain ⟨i, hi, rfl⟩ := List.mem_map.mp hx
  exact blk_len (whole_len l m) (List.mem_range.mp hi)
theorem layL_flat (l : List UInt8) (m : Bool) : (layL l m).flatten = wholeL l m := chunks _ (whole_len l m)
theorem layL_ne (l : List UInt8) (m : Bool) : layL l m ≠ [] := fun e => by
  have := congrArg List.length e
  rw [layL_len] at this
  unfold nb at this
  simp at this
  omega
/-- blocks are the same if their bytes are -/
theorem all_eq {xs ys : List (List UInt8)} (hx : All64 xs) (hy : All64 ys) (hl : xs.length = ys.length) : xs = ys ↔ xs.flatten = ys.flatten := by
  refine ⟨fun e => by rw [e], fun e => List.ext_getElem hl fun i h1 h2 => ?_⟩
  rw [hx.at i h1, hy.at i h2, e]

/-- the parts of a record's bytes -/
theorem head_parts {S : List UInt8} {k : Nat} (h64 : 64 ≤ S.length) (h : headA (S.take 64) = (true, k, 0)) : S.take 1 = [1] ∧ num ((S.drop 1).take 2) = k := by
  have hl : ¬ (S.take 64).length ≠ 64 := by rw [List.length_take]; omega
  have t1 : (S.take 64).take 1 = S.take 1 := by rw [List.take_take]; rfl
  have t2 : ((S.take 64).drop 1).take 2 = (S.drop 1).take 2 := by
    rw [List.drop_take, List.take_take]; rfl
  unfold headA at h
  rw [if_neg hl, t1, t2] at h
  by_cases a : S.take 1 = [0]
  · rw [if_pos a] at h; simp at h
  · rw [if_neg a] at h
    by_cases b : S.take 1 = [1]
    · rw [if_pos b] at h
      by_cases c : 40000 < num ((S.drop 1).take 2)
      · rw [if_pos c] at h; simp at h
      · rw [if_neg c] at h
        exact ⟨b, congrArg (fun p => p.2.1) h⟩
    · rw [if_neg b] at h; simp at h
theorem head_of {S : List UInt8} {k : Nat} (h64 : 64 ≤ S.length) (h1 : S.take 1 = [1]) (h2 : num ((S.drop 1).take 2) = k) (hk : k ≤ 40000) : headA (S.take 64) = (true, k, 0) := by
  have hl : ¬ (S.take 64).length ≠ 64 := by rw [List.length_take]; omega
  have t1 : (S.take 64).take 1 = S.take 1 := by rw [List.take_take]; rfl
  have t2 : ((S.take 64).drop 1).take 2 = (S.drop 1).take 2 := by
    rw [List.drop_take, List.take_take]; rfl
  unfold headA
  rw [if_neg hl, t1, t2, h1, if_neg (by decide), if_pos rfl, h2, if_neg (by omega)]
theorem zeros_iff (l : List UInt8) : zerosB l = true ↔ l = List.replicate l.length 0 := by
  unfold zerosB
  rw [List.all_eq_true, List.eq_replicate_iff]
  simp
/-- blocks are what their bytes are laid as, if the check is theirs, and what is behind is 0 -/
theorem whole_iff {S : List UInt8} {k : Nat} (hS : S.length = 64 * nb k) (h1 : S.take 1 = [1]) (h2 : num ((S.drop 1).take 2) = k) :
    S = wholeL ((S.drop 7).take k) true ↔ num ((S.drop 3).take 4) = crc ((S.drop 7).take k) ∧ zerosB (S.drop (7 + k)) = true := by
  have hge := nb_ge k
  have hB : ((S.drop 7).take k).length = k := by rw [List.length_take, List.length_drop]; omega
  obtain ⟨B, hBe⟩ : ∃ B, B = (S.drop 7).take k := ⟨_, rfl⟩
  have hBl : B.length = k := by rw [hBe]; exact hB
  rw [← hBe]
  have split : S = [1] ++ (S.drop 1).take 2 ++ (S.drop 3).take 4 ++ B ++ S.drop (7 + k) := by
    have a := List.take_append_drop 1 S
    have b := List.take_append_drop 2 (S.drop 1)
    have c := List.take_append_drop 4 (S.drop 3)
    have d := List.take_append_drop k (S.drop 7)
    rw [List.drop_drop] at b c d
    rw [show 1 + 2 = 3 by rfl] at b
    rw [show 3 + 4 = 7 by rfl] at c
    rw [← hBe] at d
    rw [List.append_assoc, List.append_assoc, List.append_assoc, d, c, b, ← h1, a]
  have hn : (S.drop 1).take 2 = be 2 k := by
    have := be_num ((S.drop 1).take 2)
    rw [h2, List.length_take, List.length_drop, show min 2 (S.length - 1) = 2 by omega] at this
    exact this.symm
  have hc4 : ((S.drop 3).take 4).length = 4 := by rw [List.length_take, List.length_drop]; omega
  have hz : (S.drop (7 + k)).length = 64 * nb k - (7 + k) := by rw [List.length_drop, hS]
  have hw : wholeL B true = [1] ++ be 2 k ++ be 4 (crc B) ++ B ++ List.replicate (64 * nb k - (7 + k)) 0 := by
    unfold wholeL frontL mk
    rw [hBl]
    rfl
  constructor
  · intro e
    have e2 : [1] ++ be 2 k ++ (S.drop 3).take 4 ++ B ++ S.drop (7 + k) = [1] ++ be 2 k ++ be 4 (crc B) ++ B ++ List.replicate (64 * nb k - (7 + k)) 0 := by
      rw [← hw, ← e, ← hn]; exact split.symm
    have e3 := List.append_inj e2 (by simp [be_len]; omega)
    have e4 := List.append_inj e3.1 (by simp [be_len]; omega)
    have e5 := List.append_inj e4.1 (by simp [be_len])
    refine ⟨by rw [e5.2]; exact num_be 4 _ (crc_lt B), ?_⟩
    rw [zeros_iff, hz]
    exact e3.2
  · rintro ⟨a, b⟩
    rw [zeros_iff, hz] at b
    have c : (S.drop 3).take 4 = be 4 (crc B) := by
      have := be_num ((S.drop 3).take 4)
      rw [hc4, a] at this
      exact this.symm
    rw [hw, ← c, ← b, ← hn]
    exact split
end Go.Proofs.YtjffcgimdffkoaaGreatDoor
