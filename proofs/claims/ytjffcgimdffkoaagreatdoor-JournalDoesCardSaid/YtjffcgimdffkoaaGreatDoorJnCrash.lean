/- A journal's writes, torn or not: what is told behind them: plain. -/
import Derived.Test.YtjffcgimdffkoaaGreatDoorJnMath
namespace Go.Proofs.YtjffcgimdffkoaaGreatDoor

def applyW : (Nat → ByteArray) → List (Nat × ByteArray) → (Nat → ByteArray)
  | B, [] => B
  | B, (a, x) :: r => applyW (upd B a x) r
theorem applyW_append (xs ys : List (Nat × ByteArray)) : ∀ B, applyW B (xs ++ ys) = applyW (applyW B xs) ys := by
  induction xs with
  | nil => intro B; rfl
  | cons x xs ih => intro B; exact ih _
theorem applyW_range (g : Nat → ByteArray) (a : Nat) : ∀ (k : Nat) (C : Nat → ByteArray) (c : Nat), applyW C ((List.range k).map fun i => (a + i, g i)) c = if a ≤ c ∧ c < a + k then g (c - a) else C c := by
  intro k
  induction k with
  | zero => intro C c; rw [if_neg (by omega)]; rfl
  | succ k ih =>
    intro C c
    rw [List.range_succ, List.map_append, applyW_append]
    show upd (applyW C _) (a + k) (g k) c = _
    by_cases h : c = a + k
    · subst h
      rw [upd_at, if_pos (by omega), show a + k - a = k by omega]
    · rw [upd_far _ _ h, ih]
      by_cases q : a ≤ c ∧ c < a + k
      · rw [if_pos q, if_pos (by omega)]
      · rw [if_neg q, if_neg (by omega)]
theorem upd_self (B : Nat → ByteArray) (a : Nat) : upd B a (B a) = B := by
  funext i
  by_cases h : i = a
  · subst h; rw [upd_at]
  · rw [upd_far _ _ h]
theorem torn_none (x y : ByteArray) : torn x y 0 = y := by
  unfold torn
  rw [ext_str, ext_str, str_app, List.drop_zero, List.drop_zero, Nat.sub_zero, Nat.sub_zero, List.take_zero, List.nil_append, List.take_of_length_le (by rw [list_size]; omega), str_of]
theorem torn_list (x y : ByteArray) (t : Nat) : (torn x y t).data.toList = x.data.toList.take t ++ y.data.toList.drop t := by
  unfold torn
  rw [ext_str, ext_str, str_app, str_list, List.drop_zero, Nat.sub_zero]
  congr 1
  rw [List.take_of_length_le (by rw [List.length_drop, list_size]; omega)]
theorem torn_idle {x y : ByteArray} (t : Nat) (hx : Idle x) (hy : Idle y) : Idle (torn x y t) := by
  unfold Idle at *
  rw [torn_list]
  cases t with
  | zero => rw [List.take_zero, List.nil_append, List.drop_zero]; exact hy
  | succ t =>
    cases hl : x.data.toList with
    | nil => rw [hl] at hx; simp at hx
    | cons c r => rw [hl] at hx; simpa using hx
/-- two that differ by their first byte alone: torn there is none between -/
theorem torn_first {c d : UInt8} {r : List UInt8} (t : Nat) (h : t ≠ 0) : torn (str (c :: r)) (str (d :: r)) t = str (c :: r) := by
  obtain ⟨t, rfl⟩ : ∃ u, t = u + 1 := ⟨t - 1, by omega⟩
  rw [← str_of (torn _ _ _), torn_list, str_list, str_list]
  congr 1
  simp

/-- some of the writes, and perhaps a beginning of the next one -/
def Mid (B : Nat → ByteArray) (wl : List (Nat × ByteArray)) (C : Nat → ByteArray) : Prop :=
  ∃ pre a x post t, wl = pre ++ (a, x) :: post ∧ t ≤ 64 ∧ C = upd (applyW B pre) a (torn x (applyW B pre a) t)
/-- each write is of a block, and whole -/
def Okay (n : Nat) (wl : List (Nat × ByteArray)) : Prop := ∀ p ∈ wl, p.1 < n ∧ p.2.size = 64
theorem wr_zero {s : SS} {a : Nat} {x : ByteArray} (h : wrE s a x = 0) : (wrS s a x).B = upd s.B a x ∧ (wrS s a x).n = s.n ∧ (wrS s a x).pw = s.pw := by
  unfold wrE at h
  unfold wrS
  by_cases q : inR s a x
  · rw [if_pos q] at h ⊢
    by_cases p : s.pw = false
    · rw [if_pos p] at h; simp at h
    · rw [if_neg p] at h ⊢
      by_cases l : s.ld = true ∧ s.fw = 0
      · rw [if_pos l] at h; simp at h
      · rw [if_neg l]
        exact ⟨by simp, rfl, rfl⟩
  · rw [if_neg q] at h; simp at h
theorem wr_nine {s : SS} {a : Nat} {x : ByteArray} (ha : a < s.n) (hx : x.size = 64) (hf : 0 ≤ s.ft ∧ s.ft ≤ 64) (h : wrE s a x ≠ 0) :
    wrE s a x = 9 ∧ (wrS s a x).n = s.n ∧ ∃ t, t ≤ 64 ∧ (wrS s a x).B = upd s.B a (torn x (s.B a) t) := by
  have q : inR s a x := ⟨by omega, by omega, hx⟩
  unfold wrE at h ⊢
  unfold wrS
  rw [if_pos q] at h
  simp only [if_pos q]
  by_cases p : s.pw = false
  · simp only [if_pos p]
    exact ⟨trivial, trivial, 0, by omega, by rw [torn_none, upd_self]⟩
  · simp only [if_neg p] at h ⊢
    by_cases l : s.ld = true ∧ s.fw = 0
    · simp only [if_pos l]
      exact ⟨trivial, trivial, s.ft.toNat, by omega, by simp⟩
    · rw [if_neg l] at h; exact absurd rfl h
theorem wr_ft (s : SS) (a : Int) (x : ByteArray) : (wrS s a x).ft = s.ft := by unfold wrS; split <;> (try split) <;> (try split) <;> rfl
theorem run_zero : ∀ (wl : List (Nat × ByteArray)) (s : SS), (runW s wl).2 = 0 → (runW s wl).1.B = applyW s.B wl ∧ (runW s wl).1.n = s.n
  | [], _, _ => ⟨rfl, rfl⟩
  | (a, x) :: r, s, h => by
    unfold runW at h ⊢
    by_cases q : wrE s a x = 0
    · rw [if_pos q] at h ⊢
      have := run_zero r _ h
      have hz := wr_zero q
      rw [hz.1, hz.2.1] at this
      exact this
    · rw [if_neg q] at h; exact absurd h q
theorem run_nine : ∀ (wl : List (Nat × ByteArray)) (s : SS), Okay s.n wl → (0 ≤ s.ft ∧ s.ft ≤ 64) → (runW s wl).2 ≠ 0 → (runW s wl).2 = 9 ∧ (runW s wl).1.n = s.n ∧ Mid s.B wl (runW s wl).1.B
  | [], _, _, _, h => absurd rfl h
  | (a, x) :: r, s, ok, hf, h => by
    have o := ok (a, x) (by simp)
    unfold runW at h ⊢
    by_cases q : wrE s a x = 0
    · rw [if_pos q] at h ⊢
      have hz := wr_zero q
      have := run_nine r _ (fun p hp => by rw [hz.2.1]; exact ok p (by simp [hp])) (by rw [wr_ft]; exact hf) h
      rw [hz.1, hz.2.1] at this
      obtain ⟨h1, h2, pre, b, y, post, t, e, ht, hB⟩ := this
      exact ⟨h1, h2, (a, x) :: pre, b, y, post, t, by rw [e]; rfl, ht, hB⟩
    · rw [if_neg q]
      obtain ⟨h1, h2, t, ht, hB⟩ := wr_nine o.1 o.2 hf q
      exact ⟨h1, h2, [], a, x, r, t, rfl, ht, hB⟩

/-- what stays of a journal while its writes go on -/
structure Keep (n : Nat) (B : Nat → ByteArray) (j : JS) (C : Nat → ByteArray) : Prop where
  sz : ∀ i, i < n → (C i).size = 64
  b0 : C 0 = B 0
  old : ∀ i, frm n j.half ≤ i → i < j.next → C i = B i
  idle : j.next < til n j.half → Idle (C j.next)
theorem Inv.keep {n : Nat} {B C : Nat → ByteArray} {j : JS} (h : Inv n B j) (k : Keep n B j C) : Inv n C j :=
  ⟨h.lo, k.sz, h.half, h.br, k.b0.trans h.b0, recs_congr B C _ _ _ k.old h.recs, h.end_, k.idle⟩
theorem Inv.self {n : Nat} {B : Nat → ByteArray} {j : JS} (h : Inv n B j) : Keep n B j B := ⟨h.sz, rfl, fun _ _ _ => rfl, h.idle⟩
/-- a write that leaves what is told -/
structure Quiet (n : Nat) (j : JS) (p : Nat × ByteArray) : Prop where
  lt : p.1 < n
  sz : p.2.size = 64
  pos : p.1 ≠ 0
  out : ¬ (frm n j.half ≤ p.1 ∧ p.1 < j.next)
  idle : p.1 = j.next → j.next < til n j.half → Idle p.2
theorem Keep.write {n : Nat} {B C : Nat → ByteArray} {j : JS} {a : Nat} {y : ByteArray} (k : Keep n B j C) (ha : a ≠ 0) (ho : ¬ (frm n j.half ≤ a ∧ a < j.next)) (hy : y.size = 64) (hi : a = j.next → j.next < til n j.half → Idle y) : Keep n B j (upd C a y) :=
  ⟨upd_size k.sz hy, by rw [upd_far _ _ (by omega)]; exact k.b0, fun i h1 h2 => by rw [upd_far _ _ (by rintro rfl; exact ho ⟨h1, h2⟩)]; exact k.old i h1 h2, fun h => by
    by_cases q : j.next = a
    · rw [← q, upd_at]; exact hi q.symm h
    · rw [upd_far _ _ q]; exact k.idle h⟩
theorem Keep.quiet {n : Nat} {B C : Nat → ByteArray} {j : JS} {a : Nat} {x : ByteArray} (k : Keep n B j C) (q : Quiet n j (a, x)) : Keep n B j (upd C a x) :=
  k.write q.pos q.out q.sz (fun e h => q.idle e h)
theorem Keep.half {n : Nat} {B C : Nat → ByteArray} {j : JS} {a : Nat} {x : ByteArray} (k : Keep n B j C) (q : Quiet n j (a, x)) {t : Nat} (ht : t ≤ 64) : Keep n B j (upd C a (torn x (C a) t)) :=
  k.write q.pos q.out (torn_size q.sz (k.sz a q.lt) ht) (fun e h => by
    have e' : a = j.next := e
    subst e'
    exact torn_idle t (q.idle rfl h) (k.idle h))
theorem Keep.all {n : Nat} {B : Nat → ByteArray} {j : JS} : ∀ (wl : List (Nat × ByteArray)) (C : Nat → ByteArray), Keep n B j C → (∀ p ∈ wl, Quiet n j p) → Keep n B j (applyW C wl)
  | [], _, k, _ => k
  | (a, x) :: r, C, k, h => Keep.all r _ (k.quiet (h (a, x) (by simp))) (fun p hp => h p (by simp [hp]))
/-- all writes are quiet: whatever is torn, the same is told -/
theorem Mid.quiet {n : Nat} {B : Nat → ByteArray} {j : JS} {wl : List (Nat × ByteArray)} {C : Nat → ByteArray} (h : Inv n B j) (m : Mid B wl C) (q : ∀ p ∈ wl, Quiet n j p) : Inv n C j := by
  obtain ⟨pre, a, x, post, t, e, ht, rfl⟩ := m
  have k := Keep.all pre B h.self (fun p hp => q p (by rw [e]; simp [hp]))
  exact h.keep (k.half (q (a, x) (by rw [e]; simp)) ht)
/-- the last write alone isn't quiet -/
theorem Mid.last {B : Nat → ByteArray} {wl : List (Nat × ByteArray)} {a : Nat} {x : ByteArray} {C : Nat → ByteArray} (m : Mid B (wl ++ [(a, x)]) C) : Mid B wl C ∨ ∃ t, t ≤ 64 ∧ C = upd (applyW B wl) a (torn x (applyW B wl a) t) := by
  obtain ⟨pre, b, y, post, t, e, ht, hC⟩ := m
  rcases List.eq_nil_or_concat post with rfl | ⟨post', z, rfl⟩
  · right
    have e2 := List.append_inj' e rfl
    obtain ⟨e3, e4⟩ := e2
    simp at e4
    obtain ⟨rfl, rfl⟩ := e4
    subst e3
    exact ⟨t, ht, hC⟩
  · left
    refine ⟨pre, b, y, post', t, ?_, ht, hC⟩
    have e2 : wl ++ [(a, x)] = (pre ++ (b, y) :: post') ++ [z] := by rw [e]; simp
    exact (List.append_inj' e2 rfl).1
end Go.Proofs.YtjffcgimdffkoaaGreatDoor
