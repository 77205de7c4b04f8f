/- A store, an operation and the last operation; what a write leaves; the beginnings of StoreKeeps. -/
import Derived.Test.YtdlhenpocdlomaaStDoes
namespace Go.Proofs.Ytdlhenpocdlomaa
open Go.RowKit

/-- the program's store, an operation's cells and the last operation's, from block B on -/
structure Uno (w0 : World) (B p b bx xb : Nat) (o x : OpD) (s : SS) (m : Int) (w : World) : Prop where
  at_ : At w p b s m
  op : Has w bx 32 o.cells
  xp : Has w xb 32 x.cells
  bel : Below B w0 w
  lp : B ≤ p
  lb : B ≤ b
  lx : B ≤ w.heap.size
section
variable {w0 w w' : World} {B p b bx xb : Nat} {o x : OpD} {s z : SS} {m k : Int}
theorem Uno.up (h : Uno w0 B p b bx xb o x s m w) (hb : Below w.heap.size w w') : Uno w0 B p b bx xb o x s m w' :=
  ⟨h.at_.up hb, h.op.up hb, h.xp.up hb, h.bel.trans (hb.mono h.lx), h.lp, h.lb, Nat.le_trans h.lx hb.size⟩
theorem Uno.drew (h : Uno w0 B p b bx xb o x s m w) : Uno w0 B p b bx xb o x s m w.drew := h.up ⟨rfl, rfl, rfl, Nat.le_refl _, fun _ _ => rfl⟩
theorem Uno.left (h : Uno w0 B p b bx xb o x s m w) (ha : At w' p b z k) (hb : But p b w w') : Uno w0 B p b bx xb o x z k w' := by
  obtain ⟨cs, hc, _⟩ := h.at_.st.row
  exact ⟨ha, hb.has h.op (h.op.ne h.at_.st.head (by decide)) (h.op.ne hc (by decide)), hb.has h.xp (h.xp.ne h.at_.st.head (by decide)) (h.xp.ne hc (by decide)),
    h.bel.trans (hb.below h.lx h.lp h.lb), h.lp, h.lb, Nat.le_trans h.lx hb.size⟩
theorem Uno.six (h : Uno w0 B p b bx xb o x s m w) : Six bx o w := h.op.six
theorem Uno.block (h : Uno w0 B p b bx xb o x s m w) :
    Calls Try.prog 11 #[.agg #[.int .i64 o.d, .int .i64 o.a, .int .i64 o.n, .int .i64 o.t, .string o.x, .bool o.f]] w fun e w' => e = .returned (.string (blk o.x o.f)) ∧ Uno w0 B p b bx xb o x s m w' := by
  refine (block_any w o.d o.a o.n o.t o.x o.f).mono ?_
  rintro e w' ⟨rfl, hb⟩
  exact ⟨rfl, h.up hb⟩
theorem Uno.write (h : Uno w0 B p b bx xb o x s m w) (hm : m ≤ 1000) (y : ByteArray) :
    Calls Try.prog 10 #[.pointer (some ⟨p, 0, none⟩), .int .i64 o.a, .string y] w fun e w' => e = .returned (.int .i64 (wrE s o.a y)) ∧ Uno w0 B p b bx xb o x (wrS s o.a y) (m + 1) w' := by
  refine (h.at_.write hm ⟨rfl, rfl⟩).mono ?_
  rintro e w' ⟨rfl, ha, hb⟩
  exact ⟨rfl, h.left ha hb⟩
theorem Uno.restart (h : Uno w0 B p b bx xb o x s m w) :
    Calls Try.prog 13 #[.pointer (some ⟨p, 0, none⟩)] w fun e w' => e = .returned (.tuple #[]) ∧ Uno w0 B p b bx xb o x (reS s) m w' := by
  refine (h.at_.restart rfl).mono ?_
  rintro e w' ⟨rfl, ha, hb⟩
  exact ⟨rfl, h.left ha hb⟩
theorem Uno.fuse (h : Uno w0 B p b bx xb o x s m w) (hn : o.n ≤ 9223372036854775807) :
    Calls Try.prog 12 #[.pointer (some ⟨p, 0, none⟩), .int .i64 o.n, .int .i64 o.t] w fun e w' => e = .returned (.tuple #[]) ∧ Uno w0 B p b bx xb o x (fuS s o.n o.t) m w' := by
  refine (h.at_.fuse hn rfl).mono ?_
  rintro e w' ⟨rfl, ha, hb⟩
  exact ⟨rfl, h.left ha hb⟩
end

/-- what a write leaves of a block -/
theorem wr_far (s : SS) (a : Int) (y : ByteArray) (k : Nat) (h : (k : Int) ≠ a ∨ wrE s a y = 1) : (wrS s a y).B k = s.B k := by
  unfold wrE at h
  unfold wrS
  by_cases q : inR s a y
  · rw [if_pos q] at h ⊢
    have hk : (k : Int) ≠ a := by
      rcases h with h | h
      · exact h
      · exfalso; revert h; split <;> (try split) <;> omega
    have hk' : k ≠ a.toNat := by have := q.1; omega
    split
    · rfl
    · split
      · exact upd_far _ _ hk'
      · exact upd_far _ _ hk'
  · rw [if_neg q]
theorem torn_all {x y : ByteArray} (hx : x.size = 64) (hy : y.size = 64) : torn x y 64 = x := by
  unfold torn
  apply ByteArray.ext
  apply Array.toList_inj.1
  simp only [ByteArray.data_append, Array.toList_append, Lib.extract_data]
  have h1 : x.data.toList.length ≤ 64 := by rw [← Lib.size_eq]; omega
  have h2 : y.data.toList.length ≤ 64 := by rw [← Lib.size_eq]; omega
  rw [List.drop_of_length_le h2, Nat.sub_zero, List.drop_zero, List.take_of_length_le h1]
  simp
theorem wr_near (s : SS) (m a : Int) (y : ByteArray) (k : Nat) (hF : Fine s m) (hk : (k : Int) = a) (h : wrE s a y ≠ 1) :
    k < s.n ∧ y.size = 64 ∧ (∃ t, t ≤ 64 ∧ (wrS s a y).B k = torn y (s.B k) t) ∧ (wrE s a y = 0 → (wrS s a y).B k = y) ∧ (wrE s a y = 0 ∨ wrE s a y = 9) := by
  unfold wrE at h ⊢
  unfold wrS
  by_cases q : inR s a y
  · rw [if_pos q] at h ⊢
    rw [if_pos q]
    have hk' : a.toNat = k := by omega
    have hkn : k < s.n := by have := q.2.1; omega
    have hs := hF.sz k hkn
    refine ⟨hkn, q.2.2, ?_⟩
    by_cases hp : s.pw = false
    · rw [if_pos hp, if_pos hp]
      exact ⟨⟨0, by omega, by rw [torn_none]⟩, by omega, .inr rfl⟩
    · rw [if_neg hp, if_neg hp]
      by_cases hd : s.ld = true ∧ s.fw = 0
      · rw [if_pos hd, if_pos hd]
        refine ⟨⟨s.ft.toNat, by have := hF.ft; omega, ?_⟩, by omega, .inr rfl⟩
        show upd s.B a.toNat _ k = _
        rw [hk', upd_at]
      · rw [if_neg hd, if_neg hd]
        have e : ({ s with B := upd s.B a.toNat y, fw := if s.ld = true then s.fw - 1 else s.fw, mn := s.mn + 1 } : SS).B k = y := by
          show upd s.B a.toNat y k = y
          rw [hk', upd_at]
        exact ⟨⟨64, by omega, by rw [torn_all q.2.2 hs]; exact e⟩, fun _ => e, .inl rfl⟩
  · rw [if_neg q] at h
    exact absurd rfl h
theorem wr_many (s : SS) (a : Int) (y : ByteArray) : (wrS s a y).mn = if wrE s a y = 0 then s.mn + 1 else s.mn := by
  unfold wrE wrS
  split
  · split
    · simp
    · split <;> simp
  · simp
/-- behind the common beginning of b and x there is the end of y -/
theorem torn_end {x y : ByteArray} {t n : Nat} (hx : x.size = 64) (ht : t ≤ n) (hn : n ≤ 64) : ((torn x y t).extract n 64).toList = (y.extract n 64).toList := by
  have ht' : t ≤ 64 := by omega
  rw [Lib.toList_data, Lib.toList_data, Lib.extract_data, Lib.extract_data, torn_data hx ht']
  have e : (x.extract 0 t).size = t := by simp [ByteArray.size_extract, hx]; omega
  have e2 : (x.extract 0 t).data.toList.length = t := by rw [← Lib.size_eq, e]
  rw [List.drop_append, e2, List.drop_of_length_le (by omega), List.nil_append, e, List.drop_drop, show t + (n - t) = n by omega]
theorem torn_begin {x y : ByteArray} {t j : Nat} (hx : x.size = 64) (ht : t ≤ 64) (hj : j < t) : (torn x y t).data.toList[j]? = x.data.toList[j]? := by
  rw [torn_data hx ht]
  have e : (x.extract 0 t).size = t := by simp [ByteArray.size_extract, hx]; omega
  have e2 : (x.extract 0 t).data.toList.length = t := by rw [← Lib.size_eq, e]
  rw [List.getElem?_append_left (by omega), Lib.extract_data, Nat.sub_zero, List.drop_zero, List.getElem?_take_of_lt hj]

/-- .. and the row of what was -/
structure Trio (w0 : World) (B p b xb g : Nat) (x : OpD) (cur : Array Value) (s : SS) (m : Int) (w : World) : Prop where
  uno : Uno w0 B p b xb xb x x s m w
  was : Has w g 9 cur
section
variable {w0 w w' : World} {B p b xb g : Nat} {x : OpD} {cur : Array Value} {s z : SS} {m k : Int}
theorem Trio.up (h : Trio w0 B p b xb g x cur s m w) (hb : Below w.heap.size w w') : Trio w0 B p b xb g x cur s m w' := ⟨h.uno.up hb, h.was.up hb⟩
theorem Trio.drew (h : Trio w0 B p b xb g x cur s m w) : Trio w0 B p b xb g x cur s m w.drew := h.up ⟨rfl, rfl, rfl, Nat.le_refl _, fun _ _ => rfl⟩
theorem Trio.drewN (h : Trio w0 B p b xb g x cur s m w) (n : Nat) : Trio w0 B p b xb g x cur s m (w.drewN n) := h.up ⟨rfl, rfl, rfl, Nat.le_refl _, fun _ _ => rfl⟩
theorem Trio.six (h : Trio w0 B p b xb g x cur s m w) : Six xb x w := h.uno.six
theorem Trio.block (h : Trio w0 B p b xb g x cur s m w) :
    Calls Try.prog 11 #[.agg #[.int .i64 x.d, .int .i64 x.a, .int .i64 x.n, .int .i64 x.t, .string x.x, .bool x.f]] w fun e w' => e = .returned (.string (blk x.x x.f)) ∧ Trio w0 B p b xb g x cur s m w' := by
  refine (block_any w x.d x.a x.n x.t x.x x.f).mono ?_
  rintro e w' ⟨rfl, hb⟩
  exact ⟨rfl, h.up hb⟩
theorem Trio.write (h : Trio w0 B p b xb g x cur s m w) (hm : m ≤ 1000) (y : ByteArray) :
    Calls Try.prog 10 #[.pointer (some ⟨p, 0, none⟩), .int .i64 x.a, .string y] w fun e w' => e = .returned (.int .i64 (wrE s x.a y)) ∧ Trio w0 B p b xb g x cur (wrS s x.a y) (m + 1) w' := by
  refine (h.uno.at_.write hm ⟨rfl, rfl⟩).mono ?_
  rintro e w' ⟨rfl, ha, hb⟩
  obtain ⟨cs, hc, _⟩ := h.uno.at_.st.row
  exact ⟨rfl, h.uno.left ha hb, hb.has h.was (h.was.ne h.uno.at_.st.head (by decide)) (h.was.ne hc (by decide))⟩
theorem Trio.bel (h : Trio w0 B p b xb g x cur s m w) : Below B w0 w := h.uno.bel
end
/-- the first so many blocks -/
def rows (s : SS) (k : Nat) : List Value := (List.range k).map fun i => .string (s.B i)
theorem rows_succ (s : SS) (k : Nat) : rows s (k + 1) = rows s k ++ [.string (s.B k)] := by simp [rows, List.range_succ]
theorem rows_told {s : SS} {n : Nat} {cur : Array Value} (h : cur.toList.take n = rows s n) : Told cur n s.B := by
  intro i hi
  have e : (cur.toList.take n)[i]? = some (.string (s.B i)) := by
    rw [h]
    simp [rows, hi]
  rw [List.getElem?_take_of_lt hi, Array.getElem?_toList] at e
  exact e
end Go.Proofs.Ytdlhenpocdlomaa
