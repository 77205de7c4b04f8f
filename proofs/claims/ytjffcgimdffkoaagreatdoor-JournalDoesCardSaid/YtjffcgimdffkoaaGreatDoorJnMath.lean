/- A journal as numbers and byte strings: its store's blocks, its calls, and what is told behind a restart: plain. -/
import Derived.Test.YtjffcgimdffkoaaGreatDoorBk
import Derived.Test.YtjffcgimdffkoaaGreatDoorRcQ
namespace Go.Proofs.YtjffcgimdffkoaaGreatDoor

/-- what a journal has, beside its store: the half that counts, where the next record begins, the text and the records; is it broken? -/
structure JS where
  half : Nat
  next : Nat
  L : List (List UInt8)
  br : Bool
def hlf (n : Nat) : Nat := (n - 1) / 2
/-- a half's first block -/
def frm (n h : Nat) : Nat := 1 + h * hlf n
/-- the block behind its last -/
def til (n h : Nat) : Nat := frm n h + hlf n
def bl (B : Nat → ByteArray) (i : Nat) : List UInt8 := (B i).data.toList
def blks (B : Nat → ByteArray) (a k : Nat) : List (List UInt8) := (List.range k).map fun i => bl B (a + i)
/-- block 0, where half h counts -/
def mark0 (h : Nat) : ByteArray := str (UInt8.ofNat h :: List.replicate 63 0)
/-- the records from a block on, and where they end -/
def scan (B : Nat → ByteArray) (e : Nat) : Nat → Nat → Option (List (List UInt8) × Nat)
  | 0, _ => none
  | f + 1, a =>
    if e ≤ a then some ([], a)
    else if (headA (bl B a)).2.2 ≠ 0 then none
    else if (headA (bl B a)).1 = false then some ([], a)
    else if e < a + nb (headA (bl B a)).2.1 then none
    else if (joinA (blks B a (nb (headA (bl B a)).2.1))).2 ≠ 0 then none
    else match scan B e f (a + nb (headA (bl B a)).2.1) with
      | none => none
      | some (l, q) => some ((joinA (blks B a (nb (headA (bl B a)).2.1))).1 :: l, q)
/-- writes, one behind the other, up to the first error -/
def runW : SS → List (Nat × ByteArray) → SS × Int
  | s, [] => (s, 0)
  | s, (a, x) :: r => if wrE s a x = 0 then runW (wrS s a x) r else (wrS s a x, wrE s a x)
/-- a record's blocks behind its first, from a block on -/
def bodyW (a : Nat) (l : List ByteArray) : List (Nat × ByteArray) := (List.range l.length).map fun i => (a + i, l.getD i ByteArray.empty)
def first (b : List UInt8) (m : Bool) : ByteArray := str (blkL (wholeL b m) 0)
/-- the writes by which bytes are laid in a half, from a block on -/
def layW (B : Nat → ByteArray) (b : List UInt8) (a e : Nat) : List (Nat × ByteArray) :=
  (if a + nb b.length < e ∧ B (a + nb b.length) ≠ zs 64 then [(a + nb b.length, zs 64)] else []) ++ bodyW (a + 1) ((layX b true).drop 1) ++ [(a, first b false), (a, first b true)]
/-- there is no room -/
def full (b : List UInt8) (a e : Nat) : Prop := 40000 < b.length ∨ e < a + nb b.length
instance (b : List UInt8) (a e : Nat) : Decidable (full b a e) := inferInstanceAs (Decidable (_ ∨ _))
def appS (s : SS) (j : JS) (b : List UInt8) : SS × JS × Int :=
  if j.br = true then (s, j, 9)
  else if full b j.next (til s.n j.half) then (s, j, 4)
  else if (runW s (layW s.B b j.next (til s.n j.half))).2 = 0 then ((runW s (layW s.B b j.next (til s.n j.half))).1, { j with L := j.L ++ [b], next := j.next + nb b.length }, 0)
  else ((runW s (layW s.B b j.next (til s.n j.half))).1, { j with br := true }, (runW s (layW s.B b j.next (til s.n j.half))).2)
/-- all writes of a snap -/
def snapW (s : SS) (j : JS) (b : List UInt8) : List (Nat × ByteArray) :=
  layW s.B b (frm s.n (1 - j.half)) (til s.n (1 - j.half)) ++ [(0, mark0 (1 - j.half))]
def snapS (s : SS) (j : JS) (b : List UInt8) : SS × JS × Int :=
  if j.br = true then (s, j, 9)
  else if full b (frm s.n (1 - j.half)) (til s.n (1 - j.half)) then (s, j, 4)
  else if (runW s (snapW s j b)).2 = 0 then ((runW s (snapW s j b)).1, { half := 1 - j.half, next := frm s.n (1 - j.half) + nb b.length, L := [b], br := false }, 0)
  else ((runW s (snapW s j b)).1, { j with br := true }, (runW s (snapW s j b)).2)
/-- what is told of a store, before anything is laid -/
def readS (s : SS) : Option JS :=
  if s.B 0 ≠ mark0 0 ∧ s.B 0 ≠ mark0 1 then none
  else match scan s.B (til s.n (if s.B 0 = mark0 0 then 0 else 1)) (s.n + 1) (frm s.n (if s.B 0 = mark0 0 then 0 else 1)) with
    | none => none
    | some (l, q) => some { half := if s.B 0 = mark0 0 then 0 else 1, next := q, L := l, br := false }
def openS (s : SS) : SS × Option JS × Int :=
  match readS s with
  | none => (s, none, 8)
  | some j => if j.L = [] then
      (if (appS s j []).2.2 = 0 then ((appS s j []).1, some (appS s j []).2.1, 0) else ((appS s j []).1, none, (appS s j []).2.2))
    else (s, some j, 0)
def roomS (s : SS) (j : JS) : Int := (til s.n j.half : Int) - (j.next : Int)

-- what lies in the blocks
/-- records lie one behind the other, from a on to q -/
def Recs (B : Nat → ByteArray) : Nat → List (List UInt8) → Nat → Prop
  | a, [], q => q = a
  | a, r :: L, q => r.length ≤ 40000 ∧ blks B a (nb r.length) = layL r true ∧ Recs B (a + nb r.length) L q
/-- the block's mark is 0 -/
def Idle (x : ByteArray) : Prop := x.data.toList.take 1 = [0]
/-- the half that counts tells what the journal tells -/
structure Inv (n : Nat) (B : Nat → ByteArray) (j : JS) : Prop where
  lo : 3 ≤ n
  sz : ∀ i, i < n → (B i).size = 64
  half : j.half ≤ 1
  br : j.br = false
  b0 : B 0 = mark0 j.half
  recs : Recs B (frm n j.half) j.L j.next
  end_ : j.next ≤ til n j.half
  idle : j.next < til n j.half → Idle (B j.next)

theorem til_le (n h : Nat) (hn : 3 ≤ n) (hh : h ≤ 1) : til n h ≤ n := by
  unfold til frm hlf
  have : h = 0 ∨ h = 1 := by omega
  rcases this with rfl | rfl <;> omega
theorem frm_pos (n h : Nat) : 1 ≤ frm n h := by unfold frm; omega
theorem blks_len (B : Nat → ByteArray) (a k : Nat) : (blks B a k).length = k := by simp [blks]
theorem blks_at (B : Nat → ByteArray) (a k i : Nat) (h : i < k) : (blks B a k)[i]'(by rw [blks_len]; exact h) = bl B (a + i) := by simp [blks]
theorem recs_le (B : Nat → ByteArray) : ∀ (L : List (List UInt8)) (a q : Nat), Recs B a L q → a ≤ q
  | [], a, q, h => by unfold Recs at h; omega
  | r :: L, a, q, h => by
    have := recs_le B L _ _ h.2.2
    omega
theorem recs_congr (B C : Nat → ByteArray) : ∀ (L : List (List UInt8)) (a q : Nat), (∀ i, a ≤ i → i < q → C i = B i) → Recs B a L q → Recs C a L q
  | [], _, _, _, h => h
  | r :: L, a, q, e, h => by
    have hq := recs_le B L _ _ h.2.2
    refine ⟨h.1, ?_, recs_congr B C L _ _ (fun i hi hi2 => e i (by omega) hi2) h.2.2⟩
    rw [← h.2.1]
    unfold blks
    refine List.map_congr_left fun i hi => ?_
    have := List.mem_range.mp hi
    unfold bl
    rw [e (a + i) (by omega) (by omega)]
theorem recs_snoc (B : Nat → ByteArray) (b : List UInt8) (hb : b.length ≤ 40000) : ∀ (L : List (List UInt8)) (a q : Nat), Recs B a L q → blks B q (nb b.length) = layL b true → Recs B a (L ++ [b]) (q + nb b.length)
  | [], a, q, h, e => by
    unfold Recs at h
    subst h
    exact ⟨hb, e, rfl⟩
  | r :: L, a, q, h, e => ⟨h.1, h.2.1, recs_snoc B b hb L _ _ h.2.2 e⟩
theorem idle_head {x : ByteArray} (h : Idle x) (hx : x.size = 64) : headA x.data.toList = (false, 0, 0) := by
  unfold headA
  unfold Idle at h
  rw [if_neg (by rw [list_size]; omega), if_pos h]
theorem head_rec {B : Nat → ByteArray} {a : Nat} {r : List UInt8} (hr : r.length ≤ 40000) (h : blks B a (nb r.length) = layL r true) : headA (bl B a) = (true, r.length, 0) := by
  have hp := nb_pos r.length
  have e : bl B a = (wholeL r true).take 64 := by
    have h1 := congrArg (fun m => m[0]?) h
    simp only [List.getElem?_eq_getElem (show 0 < (blks B a (nb r.length)).length by rw [blks_len]; exact hp), blks_at B a _ 0 hp, Nat.add_zero] at h1
    rw [List.getElem?_eq_getElem (by rw [layL_len]; exact hp)] at h1
    rw [Option.some.inj h1, (layL_all r true).at 0 (by rw [layL_len]; exact hp), layL_flat]
    unfold blkL
    rw [Nat.mul_zero, List.drop_zero]
  rw [e]
  exact head_laid hr
/-- what lies there is told -/
theorem scan_recs (B : Nat → ByteArray) (e : Nat) (he : ∀ i, i < e → (B i).size = 64) : ∀ (L : List (List UInt8)) (a q f : Nat), Recs B a L q → q ≤ e → (q < e → Idle (B q)) → e - a < f → scan B e f a = some (L, q)
  | [], a, q, f, h, hq, hi, hf => by
    unfold Recs at h
    subst h
    obtain ⟨f, rfl⟩ : ∃ g, f = g + 1 := ⟨f - 1, by omega⟩
    unfold scan
    by_cases c : e ≤ q
    · rw [if_pos c]
    · have hh : headA (bl B q) = (false, 0, 0) := idle_head (hi (by omega)) (he q (by omega))
      rw [if_neg c, hh, if_neg (by simp), if_pos rfl]
  | r :: L, a, q, f, h, hq, hi, hf => by
    obtain ⟨f, rfl⟩ : ∃ g, f = g + 1 := ⟨f - 1, by omega⟩
    have hp := nb_pos r.length
    have hle := recs_le B L _ _ h.2.2
    have hh := head_rec h.1 h.2.1
    have hj : joinA (blks B a (nb r.length)) = (r, 0) := by rw [h.2.1]; exact join_laid h.1
    unfold scan
    rw [if_neg (by omega), hh, if_neg (by simp), if_neg (by simp), if_neg (by show ¬ e < a + nb r.length; omega), hj, if_neg (by simp)]
    rw [scan_recs B e he L _ q f h.2.2 hq hi (by omega)]
theorem mark0_ne : mark0 0 ≠ mark0 1 := by
  intro h
  have := congrArg (fun x : ByteArray => x.data.toList.take 1) h
  unfold mark0 at this
  simp only [str_list] at this
  exact absurd this (by decide)
theorem read_inv {s : SS} {j : JS} (h : Inv s.n s.B j) : readS s = some j := by
  obtain ⟨hf, nx, L, br⟩ := j
  have hb := h.br
  simp only at hb
  subst hb
  have hsc := scan_recs s.B (til s.n hf) (fun i hi => h.sz i (Nat.lt_of_lt_of_le hi (til_le s.n hf h.lo h.half))) L (frm s.n hf) nx (s.n + 1) h.recs h.end_ h.idle (by have := til_le s.n hf h.lo h.half; omega)
  have h1 : (if s.B 0 = mark0 0 then 0 else 1) = hf := by
    have hb0 := h.b0
    simp only at hb0
    rw [hb0]
    have := h.half
    simp only at this
    have : hf = 0 ∨ hf = 1 := by omega
    rcases this with rfl | rfl
    · rw [if_pos rfl]
    · rw [if_neg (Ne.symm mark0_ne)]
  unfold readS
  rw [h1, hsc, if_neg]
  have hb0 := h.b0
  simp only at hb0
  have := h.half
  simp only at this
  have : hf = 0 ∨ hf = 1 := by omega
  rcases this with rfl | rfl
  · exact fun z => z.1 hb0
  · exact fun z => z.2 hb0
theorem open_inv {s : SS} {j : JS} (h : Inv s.n s.B j) (ne : j.L ≠ []) : openS s = (s, some j, 0) := by
  unfold openS
  rw [read_inv h]
  simp only
  rw [if_neg ne]
end Go.Proofs.YtjffcgimdffkoaaGreatDoor
