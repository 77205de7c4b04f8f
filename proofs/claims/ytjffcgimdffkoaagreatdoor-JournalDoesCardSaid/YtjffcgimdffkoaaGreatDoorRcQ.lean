/- What is joined of what was laid, and of what was laid and turned, plain. -/
import Derived.Test.YtjffcgimdffkoaaGreatDoorRcP
namespace Go.Proofs.YtjffcgimdffkoaaGreatDoor

theorem whole_cut (l : List UInt8) (m : Bool) : wholeL l m = [mk m] ++ (be 2 l.length ++ (be 4 (crc l) ++ (l ++ List.replicate (64 * nb l.length - (7 + l.length)) 0))) := by
  unfold wholeL frontL
  simp [List.append_assoc]
theorem w1 (l : List UInt8) (m : Bool) : (wholeL l m).take 1 = [mk m] := by rw [whole_cut]; rfl
theorem w3 (l : List UInt8) (m : Bool) : ((wholeL l m).drop 1).take 2 = be 2 l.length := by
  rw [whole_cut]
  show (be 2 l.length ++ _).take 2 = _
  rw [List.take_append_of_le_length (by rw [be_len]; omega), List.take_of_length_le (by rw [be_len]; omega)]
theorem d3 (l : List UInt8) (m : Bool) : (wholeL l m).drop 3 = be 4 (crc l) ++ (l ++ List.replicate (64 * nb l.length - (7 + l.length)) 0) := by
  rw [whole_cut]
  rfl
theorem w7 (l : List UInt8) (m : Bool) : ((wholeL l m).drop 3).take 4 = be 4 (crc l) := by
  rw [d3, List.take_append_of_le_length (by rw [be_len]; omega), List.take_of_length_le (by rw [be_len]; omega)]
theorem d7 (l : List UInt8) (m : Bool) : (wholeL l m).drop 7 = l ++ List.replicate (64 * nb l.length - (7 + l.length)) 0 := by
  rw [show (7 : Nat) = 3 + 4 by rfl, ← List.drop_drop, d3, List.drop_append_of_le_length (by rw [be_len]; omega), List.drop_of_length_le (by rw [be_len]; omega)]
  rfl
theorem wl (l : List UInt8) (m : Bool) : ((wholeL l m).drop 7).take l.length = l := by
  rw [d7, List.take_append_of_le_length (by omega), List.take_of_length_le (by omega)]
theorem wz (l : List UInt8) (m : Bool) : (wholeL l m).drop (7 + l.length) = List.replicate (64 * nb l.length - (7 + l.length)) 0 := by
  rw [← List.drop_drop, d7, List.drop_append_of_le_length (by omega), List.drop_of_length_le (by omega)]
  rfl
theorem zeros_rep (n : Nat) : zerosB (List.replicate n 0) = true := by rw [zeros_iff, List.length_replicate]
theorem w64 (l : List UInt8) (m : Bool) : 64 ≤ (wholeL l m).length := by rw [whole_len]; have : 0 < nb l.length := by unfold nb; omega
                                                                         omega
theorem head_laid {l : List UInt8} (h : l.length ≤ 40000) : headA ((wholeL l true).take 64) = (true, l.length, 0) :=
  head_of (w64 l true) (w1 l true) (by rw [w3]; exact num_be 2 _ (by omega)) h
theorem head_idle (l : List UInt8) : headA ((wholeL l false).take 64) = (false, 0, 0) := by
  have hl : ¬ ((wholeL l false).take 64).length ≠ 64 := by rw [List.length_take]; have := w64 l false; omega
  unfold headA
  rw [if_neg hl, List.take_take, show min 1 64 = 1 by rfl, w1, if_pos (show [mk false] = [0] from rfl)]
theorem joinF_laid {l : List UInt8} (h : l.length ≤ 40000) : joinF (wholeL l true) (nb l.length) = (l, 0) := by
  unfold joinF
  rw [head_laid h, if_neg (by simp), if_neg (by simp), w7, num_be 4 _ (crc_lt l), wl, wz, zeros_rep, if_neg (by simp)]
theorem joinF_idle (l : List UInt8) (n : Nat) : joinF (wholeL l false) n = ([], 2) := by
  unfold joinF
  rw [head_idle, if_neg (by simp), if_pos (.inl rfl)]
theorem join_laid {l : List UInt8} (h : l.length ≤ 40000) : joinA (layL l true) = (l, 0) := by
  rw [joinA_F (layL_all l true) (layL_ne l true), layL_flat, layL_len, joinF_laid h]
theorem join_idle_laid (l : List UInt8) : joinA (layL l false) = ([], 2) := by
  rw [joinA_F (layL_all l false) (layL_ne l false), layL_flat, joinF_idle]

/-- a byte of a block is turned -/
theorem flat_set {xs : List (List UInt8)} (h : All64 xs) (i j : Nat) (hi : i < xs.length) (hj : j < 64) (v : UInt8) : (xs.set i (xs[i].set j v)).flatten = xs.flatten.set (64 * i + j) v := by
  induction xs generalizing i with
  | nil => simp at hi
  | cons x r ih =>
    have hx := h x (by simp)
    cases i with
    | zero =>
      show (x.set j v :: r).flatten = _
      rw [List.flatten_cons, List.flatten_cons, List.set_append_left _ _ (by omega), Nat.mul_zero, Nat.zero_add]
    | succ i =>
      have a := ih (fun y hy => h y (by simp [hy])) i (by simpa using hi)
      show (x :: r.set i ((r[i]'(by simpa using hi)).set j v)).flatten = _
      rw [List.flatten_cons, List.flatten_cons, a, List.set_append_right _ _ (by omega), hx, show 64 * (i + 1) + j - 64 = 64 * i + j by omega]
theorem all_set {xs : List (List UInt8)} (h : All64 xs) (i j : Nat) (hi : i < xs.length) (v : UInt8) : All64 (xs.set i (xs[i].set j v)) := fun y hy => by
  rcases List.mem_or_eq_of_mem_set hy with q | q
  · exact h y q
  · rw [q, List.length_set]; exact h _ (List.getElem_mem hi)
theorem set_ne {l : List UInt8} {k : Nat} {v : UInt8} (hk : k < l.length) (h : v ≠ l[k]) : l.set k v ≠ l := fun e => by
  have := congrArg (fun m => m[k]?) e
  simp [hk] at this
  exact h this
theorem crc_set {l : List UInt8} {k : Nat} {v : UInt8} (hk : k < l.length) (h : v ≠ l[k]) : crc (l.set k v) ≠ crc l := fun e => by
  have a : l = l.take k ++ l[k] :: l.drop (k + 1) := by rw [← List.drop_eq_getElem_cons hk, List.take_append_drop]
  have b : l.set k v = l.take k ++ v :: l.drop (k + 1) := List.set_eq_take_append_cons_drop ▸ (by rw [if_pos hk])
  rw [b] at e
  rw [show crc l = crc (l.take k ++ l[k] :: l.drop (k + 1)) by rw [← a]] at e
  exact h (crc_turned _ _ _ _ e)
theorem turned_F {l : List UInt8} (h : l.length ≤ 40000) {k : Nat} (hk : k < (wholeL l true).length) {v : UInt8} (hv : v ≠ (wholeL l true)[k]) :
    (3 ≤ k → joinF ((wholeL l true).set k v) (nb l.length) = ([], 8)) ∧
    (k < 3 → (((joinF ((wholeL l true).set k v) (nb l.length)).1 = [] ∧ (joinF ((wholeL l true).set k v) (nb l.length)).2 ≠ 0) ∨ (0 < k ∧ (joinF ((wholeL l true).set k v) (nb l.length)).2 = 0 ∧ (joinF ((wholeL l true).set k v) (nb l.length)).1 ≠ l))) := by
  obtain ⟨S, hS⟩ : ∃ S, S = wholeL l true := ⟨_, rfl⟩
  have s1 : S.take 1 = [1] := by rw [hS, w1]; rfl
  have s3 : (S.drop 1).take 2 = be 2 l.length := by rw [hS, w3]
  have s7 : (S.drop 3).take 4 = be 4 (crc l) := by rw [hS, w7]
  have sl : (S.drop 7).take l.length = l := by rw [hS, wl]
  have sz : S.drop (7 + l.length) = List.replicate (64 * nb l.length - (7 + l.length)) 0 := by rw [hS, wz]
  have s64 : 64 ≤ S.length := by rw [hS]; exact w64 l true
  have hlen : S.length = 64 * nb l.length := by rw [hS]; exact whole_len l true
  have hge := nb_ge l.length
  simp only [← hS] at hk hv ⊢
  have hT : (S.set k v).length = S.length := List.length_set ..
  have tk : ∀ n, n ≤ k → (S.set k v).take n = S.take n := fun n hn => by
    rw [List.take_set, List.set_eq_of_length_le (by rw [List.length_take]; omega)]
  constructor
  · intro h3
    have hh : headA ((S.set k v).take 64) = (true, l.length, 0) := by
      refine head_of (by omega) (by rw [tk 1 (by omega), s1]) ?_ h
      rw [List.drop_set, if_neg (by omega), List.take_set, List.set_eq_of_length_le (by rw [List.length_take]; omega), s3]
      exact num_be 2 _ (by omega)
    unfold joinF
    rw [hh, if_neg (by simp), if_neg (by simp), if_pos]
    by_cases h7 : k < 7
    · left
      have hB : ((S.set k v).drop 7).take l.length = l := by rw [List.drop_set, if_pos h7, sl]
      rw [hB, List.drop_set, if_neg (by omega), List.take_set, s7]
      intro e
      have hk4 : k - 3 < (be 4 (crc l)).length := by rw [be_len]; omega
      refine set_ne hk4 (v := v) ?_ (num_inj (by rw [List.length_set]) (e.trans (num_be 4 _ (crc_lt l)).symm))
      have : S[k]? = (be 4 (crc l))[k - 3]? := by
        rw [← s7, List.getElem?_take, if_pos (by omega), List.getElem?_drop]
        congr 1; omega
      rw [List.getElem?_eq_getElem hk, List.getElem?_eq_getElem hk4] at this
      rw [← Option.some.inj this]
      exact hv
    · by_cases hl : k < 7 + l.length
      · left
        have e3 : ((S.set k v).drop 3).take 4 = be 4 (crc l) := by rw [List.drop_set, if_neg (by omega), List.take_set, List.set_eq_of_length_le (by rw [List.length_take]; omega), s7]
        rw [e3, num_be 4 _ (crc_lt l), List.drop_set, if_neg (by omega), List.take_set, sl]
        have hk7 : k - 7 < l.length := by omega
        intro e
        refine crc_set hk7 (v := v) ?_ e.symm
        have : S[k]? = l[k - 7]? := by
          rw [← congrArg (fun m => m[k - 7]?) sl, List.getElem?_take, if_pos hk7, List.getElem?_drop]
          congr 1; omega
        rw [List.getElem?_eq_getElem hk, List.getElem?_eq_getElem hk7] at this
        rw [← Option.some.inj this]
        exact hv
      · right
        rw [Bool.eq_false_iff]
        intro e
        rw [zeros_iff, List.drop_set, if_neg (by omega), List.length_set, sz, List.length_replicate] at e
        have hkz : k - (7 + l.length) < (List.replicate (64 * nb l.length - (7 + l.length)) (0 : UInt8)).length := by rw [List.length_replicate]; omega
        refine set_ne hkz (v := v) ?_ e
        have : S[k]? = (List.replicate (64 * nb l.length - (7 + l.length)) (0 : UInt8))[k - (7 + l.length)]? := by
          rw [← sz, List.getElem?_drop]
          congr 1; omega
        rw [List.getElem?_eq_getElem hk, List.getElem?_eq_getElem hkz] at this
        rw [← Option.some.inj this]
        exact hv
  · intro h3
    obtain ⟨T, hTe⟩ : ∃ T, T = S.set k v := ⟨_, rfl⟩
    have t64 : 64 ≤ T.length := by rw [hTe]; omega
    have tlen : T.length = 64 * nb l.length := by rw [hTe, hT, hlen]
    rcases Nat.eq_zero_or_pos k with hk0 | hk0
    · left
      subst hk0
      have hne : T.take 1 ≠ [1] := by
        rw [hTe, List.take_set, s1]
        intro e
        apply hv
        have e2 : v = 1 := by simpa using e
        have : S[0]? = some 1 := by
          have := congrArg (fun m => m[0]?) s1
          simpa using this
        rw [List.getElem?_eq_getElem hk] at this
        rw [Option.some.inj this, e2]
      rw [← hTe]
      have hl : ¬ (T.take 64).length ≠ 64 := by rw [List.length_take]; omega
      have t1 : (T.take 64).take 1 = T.take 1 := by rw [List.take_take]; rfl
      unfold joinF headA
      rw [if_neg hl, t1]
      by_cases z : T.take 1 = [0]
      · rw [if_pos z, if_neg (by simp), if_pos (.inl rfl)]; simp
      · rw [if_neg z, if_neg hne, if_pos (by simp)]; simp
    · have t1 : T.take 1 = [1] := by rw [hTe, tk 1 (by omega), s1]
      have hn : num ((T.drop 1).take 2) ≠ l.length := by
        rw [hTe, List.drop_set, if_neg (by omega), List.take_set, s3]
        intro e
        have hk2 : k - 1 < (be 2 l.length).length := by rw [be_len]; omega
        refine set_ne hk2 (v := v) ?_ (num_inj (by rw [List.length_set]) (e.trans (num_be 2 _ (by omega)).symm))
        have : S[k]? = (be 2 l.length)[k - 1]? := by
          rw [← s3, List.getElem?_take, if_pos (by omega), List.getElem?_drop]
          congr 1; omega
        rw [List.getElem?_eq_getElem hk, List.getElem?_eq_getElem hk2] at this
        rw [← Option.some.inj this]
        exact hv
      rw [← hTe]
      obtain ⟨q, hq⟩ : ∃ q, q = num ((T.drop 1).take 2) := ⟨_, rfl⟩
      rw [← hq] at hn
      by_cases hbig : 40000 < q
      · left
        have hl : ¬ (T.take 64).length ≠ 64 := by rw [List.length_take]; omega
        have u1 : (T.take 64).take 1 = T.take 1 := by rw [List.take_take]; rfl
        have u2 : ((T.take 64).drop 1).take 2 = (T.drop 1).take 2 := by rw [List.drop_take, List.take_take]; rfl
        have hh : headA (T.take 64) = (false, 0, 8) := by
          unfold headA
          rw [if_neg hl, u1, u2, t1, if_neg (by decide), if_pos rfl, ← hq, if_pos hbig]
        unfold joinF
        rw [hh, if_pos (by simp)]
        simp
      · have hh : headA (T.take 64) = (true, q, 0) := head_of t64 t1 hq.symm (by omega)
        unfold joinF
        rw [hh, if_neg (by simp)]
        by_cases hb : nb l.length = nb q
        · rw [if_neg (fun z => z.elim (fun y => by cases y) (fun y => y hb))]
          by_cases hc : num ((T.drop 3).take 4) ≠ crc ((T.drop 7).take q) ∨ zerosB (T.drop (7 + q)) = false
          · left; rw [if_pos hc]; simp
          · right
            rw [if_neg hc]
            refine ⟨hk0, rfl, fun e => hn ?_⟩
            have e2 : ((T.drop 7).take q).length = l.length := congrArg List.length e
            rw [List.length_take, List.length_drop, tlen, hb] at e2
            have := nb_ge q
            omega
        · left
          rw [if_pos (.inr hb)]
          simp

theorem blk_first (l : List UInt8) (m : Bool) : blkL (wholeL l m) 0 = [mk m] ++ ((wholeL l true).drop 1).take 63 := by
  unfold blkL
  rw [Nat.mul_zero, List.drop_zero, whole_cut, whole_cut]
  rfl
theorem blk_next (l : List UInt8) (m : Bool) (i : Nat) : blkL (wholeL l m) (i + 1) = blkL (wholeL l true) (i + 1) := by
  unfold blkL
  rw [whole_cut, whole_cut, show 64 * (i + 1) = (64 * i + 63) + 1 by omega]
  rfl
theorem lay_cons (l : List UInt8) (m : Bool) : layX l m = str (blkL (wholeL l m) 0) :: (layX l true).drop 1 := by
  unfold layX
  obtain ⟨n, hn⟩ : ∃ n, nb l.length = n + 1 := ⟨nb l.length - 1, by have := nb_pos l.length; omega⟩
  rw [hn, List.range_succ_eq_map, List.map_cons, List.map_cons, List.drop_one, List.tail_cons, List.map_map, List.map_map]
  congr 1
end Go.Proofs.YtjffcgimdffkoaaGreatDoor
