/- DutyEach: plain facts; rows that it bears. -/
import Derived.Test.YtjmgncjadfhmcaaDuK
namespace Go.Proofs.Ytjmgncjadfhmcaa
open Go.RowKit

/-- Find told -/
structure Tol (S : Bs) (l : List Ln) (d : Int) : Prop where
  day : 0 ≤ d
  few : l.length ≤ 12
  pos : 0 < l.length
  fine : ∀ x ∈ l, lnB S x = true
  alo : ∀ x ∈ l, aloE S x d = 0
  am : ∀ i ∈ fsts (dKey S l) l.length, Am (duAt S l d i).al ∧ Am (duAt S l d i).un
theorem tol_of {S : Bs} {l : List Ln} {d : Int} (h : findE S l d = 0) : Tol S l d := by
  unfold findE at h
  split at h
  · cases h
  · rename_i h1
    split at h
    · rename_i h2; exact absurd h h2
    · rename_i h2
      have h2 : chkE S l = 0 := by simpa using h2
      split at h
      · cases h
      · rename_i h3
        obtain ⟨c1, c2⟩ := chk_zero h2
        have c3 : 0 < l.length := by
          unfold chkE at h2
          split at h2
          · cases h2
          · split at h2
            · cases h2
            · omega
        have h3 : duOver S l d = false := by simpa using h3
        unfold duOver at h3
        rw [Bool.or_eq_false_iff] at h3
        refine ⟨by omega, c1, c3, c2, fun x hx => ?_, fun i hi => ?_⟩
        · have := h3.1
          rw [List.any_eq_false] at this
          have := this x hx
          simpa using this
        · have := h3.2
          rw [List.any_eq_false] at this
          have := this (duAt S l d i) (List.mem_map.2 ⟨i, hi, rfl⟩)
          rw [Bool.or_eq_true] at this
          have e1 : am64 (duAt S l d i).al = true := by
            cases q : am64 (duAt S l d i).al with
            | true => rfl
            | false => exact absurd (.inl (by rw [q]; rfl)) this
          have e2 : am64 (duAt S l d i).un = true := by
            cases q : am64 (duAt S l d i).un with
            | true => rfl
            | false => exact absurd (.inr (by rw [q]; rfl)) this
          exact ⟨am64_iff.1 e1, am64_iff.1 e2⟩
theorem findV_tol {S : Bs} {l : List Ln} {d : Int} (h : findE S l d = 0) : findV S l d = duties S l d := by unfold findV; rw [if_pos h]
theorem findV_no {S : Bs} {l : List Ln} {d : Int} (h : findE S l d ≠ 0) : findV S l d = [] := by unfold findV; rw [if_neg h]
/-- how often a place was seen -/
def one1 (a k : Nat) : Int := if k = a then 1 else 0
def cntT (K : Nat → Kk) (n t a : Nat) : Int := sumN (fun i => sumN (one1 a) (mems K n i)) ((fsts K n).take t)
theorem cnt_snoc {K : Nat → Kk} {n t i : Nat} (h : (fsts K n)[t]? = some i) (a : Nat) : cntT K n (t + 1) a = cntT K n t a + sumN (one1 a) (mems K n i) := by
  unfold cntT
  rw [take_snoc h, sumN_append]
  simp [sumN]
theorem cnt_all {K : Nat → Kk} {n t a : Nat} (ht : (fsts K n).length ≤ t) (ha : a < n) : cntT K n t a = 1 := by
  unfold cntT
  rw [List.take_of_length_le ht]
  exact one_part ha
theorem sumN_le {f : Nat → Int} {M : Int} {l : List Nat} (h0 : ∀ k ∈ l, 0 ≤ f k) (h : ∀ k ∈ l, f k ≤ M) : 0 ≤ sumN f l ∧ sumN f l ≤ M * l.length := by
  induction l with
  | nil => simp [sumN]
  | cons x l ih =>
    have i := ih (fun k hk => h0 k (by simp [hk])) fun k hk => h k (by simp [hk])
    have a := h0 x (by simp)
    have b := h x (by simp)
    simp only [sumN, List.length_cons]
    rw [Int.natCast_add, Int.mul_add]
    omega
theorem one1_bd (a k : Nat) : 0 ≤ one1 a k ∧ one1 a k ≤ 1 := by unfold one1; split <;> omega
theorem mems_le (K : Nat → Kk) (n i : Nat) : (mems K n i).length ≤ n := by
  have := List.length_filter_le (fun j => decide (K j = K i)) (List.range n)
  rw [List.length_range] at this; exact this
theorem fsts_le (K : Nat → Kk) (n : Nat) : (fsts K n).length ≤ n := by
  have := List.length_filter_le (isFst K) (List.range n)
  rw [List.length_range] at this; exact this
theorem cnt_bd {K : Nat → Kk} {n : Nat} (hn : n ≤ 12) (t a : Nat) {l : List Nat} (hl : l.length ≤ 12) : 0 ≤ cntT K n t a + sumN (one1 a) l ∧ cntT K n t a + sumN (one1 a) l ≤ 200 := by
  have h1 : ∀ l : List Nat, 0 ≤ sumN (one1 a) l ∧ sumN (one1 a) l ≤ 1 * l.length := fun l => sumN_le (fun k _ => (one1_bd a k).1) fun k _ => (one1_bd a k).2
  have h2 : 0 ≤ cntT K n t a ∧ cntT K n t a ≤ 12 * ((fsts K n).take t).length := sumN_le (fun i _ => (h1 _).1) fun i _ => by
    have := (h1 (mems K n i)).2
    have := mems_le K n i
    omega
  have h3 := fsts_le K n
  have h4 := h1 l
  rw [List.length_take] at h2
  omega
/-- a row of counters -/
def seenC (n : Nat) (c : Nat → Int) : List Value := (List.range n).map fun a => .int .i64 (c a)
theorem seen_get {n a : Nat} (c : Nat → Int) (h : a < n) : (seenC n c)[a]? = some (.int .i64 (c a)) := by
  unfold seenC
  rw [List.getElem?_map, List.getElem?_range h]; rfl
theorem seen_set {n k : Nat} {c c' : Nat → Int} (h : ∀ a, c' a = if a = k then c a + 1 else c a) : (seenC n c).set k (.int .i64 (c k + 1)) = seenC n c' := by
  unfold seenC
  apply List.ext_getElem?
  intro j
  rw [List.getElem?_set, List.length_map, List.length_range]
  by_cases q : k = j
  · subst q
    rw [if_pos rfl]
    by_cases p : k < n
    · rw [if_pos p, List.getElem?_map, List.getElem?_range p, Option.map_some, h, if_pos rfl]
    · rw [if_neg p, List.getElem?_map, List.getElem?_eq_none (by simpa using p)]; rfl
  · rw [if_neg q, List.getElem?_map, List.getElem?_map]
    by_cases p : j < n
    · rw [List.getElem?_range p, Option.map_some, Option.map_some, h, if_neg (fun e => q e.symm)]
    · rw [List.getElem?_eq_none (by simpa using p)]; rfl
def i64C (k : Int) : List Value := [.int .i64 k]
theorem i64_len (k : Int) : (i64C k).length = 1 := rfl
/-- rows of DutyEach's own: counters, two rows of numbers -/
def eaL (g n : Nat) (c : Nat → Int) (v1 : Value) (z1 : List Int) (v2 : Value) (z2 : List Int) : List Ob :=
  [⟨3, 1, .slice (some ⟨g, 0, none⟩) n n, n, seenC n c⟩, ⟨2, 1, v1, z1.length, z1.flatMap i64C⟩, ⟨2, 1, v2, z2.length, z2.flatMap i64C⟩]
structure EaS (w0 w : World) (g n : Nat) (c : Nat → Int) (v1 : Value) (z1 : List Int) (v2 : Value) (z2 : List Int) : Prop where
  own : OwL w w0.heap.size (eaL g n c v1 z1 v2 z2)
  bel : Below w0.heap.size w0 w
section
variable {w0 w w' : World} {g n : Nat} {c : Nat → Int} {v1 v2 : Value} {z1 z2 : List Int}
theorem EaS.up (h : EaS w0 w g n c v1 z1 v2 z2) (q : Below w.heap.size w w') : EaS w0 w' g n c v1 z1 v2 z2 := ⟨h.own.up q, up2 h.bel q⟩
theorem EaS.drew (h : EaS w0 w g n c v1 z1 v2 z2) : EaS w0 w.drew g n c v1 z1 v2 z2 := h.up (Below.refl _ _).drew
theorem EaS.cell (h : EaS w0 w g n c v1 z1 v2 z2) {a : Nat} (ha : a < n) : w.cell? ⟨g, a, none⟩ = some (.int .i64 (c a)) ∧ w.frozen? ⟨g, a, none⟩ = false := by
  have ho := h.own.own 0 _ rfl
  refine ⟨?_, World.ownsRow.frozenAt ho a⟩
  rw [World.ownsRow.cellAt ho a (by simpa using ha)]
  exact seen_get c ha
theorem EaS.lt (h : EaS w0 w g n c v1 z1 v2 z2) : w0.heap.size ≤ g ∧ g < w.heap.size := (h.own.own 0 _ rfl).lt g rfl
theorem EaS.count (h : EaS w0 w g n c v1 z1 v2 z2) {k : Nat} {c' : Nat → Int} (hc : ∀ a, c' a = if a = k then c a + 1 else c a) : EaS w0 (w.setCell ⟨g, k, none⟩ (.int .i64 (c k + 1))) g n c' v1 z1 v2 z2 := by
  have h1 := h.own.store (i := 0) (T := 3) (z := 1) (g := g) (n := n) (cap := n) (xs := seenC n c) rfl k (.int .i64 (c k + 1))
  rw [seen_set hc] at h1
  exact ⟨h1, h.bel.setCell h.lt.1 _⟩
theorem EaS.app1 (h : EaS w0 w g n c v1 z1 v2 z2) (hn : z1.length ≤ 1000) (x : Int) {y : Nat} (hy : w.cell? ⟨y, 0, none⟩ = some (.int .i64 x)) :
    ∃ v w5, (Builtin.append_ #[41, 41] 41 #[v1, .slice (some ⟨y, 0, none⟩) 1 1]).run Try.prog w = .ok v w5 ∧ EaS w0 w5 g n c v (z1 ++ [x]) v2 z2 ∧ w.grownBy w5 v1.ownBlock := by
  obtain ⟨v, w5, hr, ho, hb, hs, _, hg⟩ := h.own.app2 (i := 1) rfl (t := 41) (ty := 41) Try.underlying41 infoI64d rfl (Nat.zero_lt_succ _) (by decide) (i64C x) rfl (ad := ⟨y, 0, none⟩) (fun j u hu => by
    match j, hu with
    | 0, hu => simp [i64C] at hu; rw [addr_off, Nat.zero_add, ← hu]; exact hy) (fun u hu => by simp [i64C] at hu; rw [hu]; rfl) (by simp only; omega) h.bel (Nat.le_refl _) h.bel.size
  refine ⟨v, w5, hr, ⟨?_, hb⟩, hg⟩
  have e : (eaL g n c v1 z1 v2 z2).set 1 ⟨2, 1, v, z1.length + 1, z1.flatMap i64C ++ i64C x⟩ = eaL g n c v (z1 ++ [x]) v2 z2 := by
    unfold eaL
    rw [List.set_cons_succ, List.set_cons_zero, List.flatMap_append, List.length_append]; rfl
  rw [← e]; exact ho
theorem EaS.app2 (h : EaS w0 w g n c v1 z1 v2 z2) (hn : z2.length ≤ 1000) (x : Int) {y : Nat} (hy : w.cell? ⟨y, 0, none⟩ = some (.int .i64 x)) :
    ∃ v w5, (Builtin.append_ #[41, 41] 41 #[v2, .slice (some ⟨y, 0, none⟩) 1 1]).run Try.prog w = .ok v w5 ∧ EaS w0 w5 g n c v1 z1 v (z2 ++ [x]) ∧ w.grownBy w5 v2.ownBlock := by
  obtain ⟨v, w5, hr, ho, hb, hs, _, hg⟩ := h.own.app2 (i := 2) rfl (t := 41) (ty := 41) Try.underlying41 infoI64d rfl (Nat.zero_lt_succ _) (by decide) (i64C x) rfl (ad := ⟨y, 0, none⟩) (fun j u hu => by
    match j, hu with
    | 0, hu => simp [i64C] at hu; rw [addr_off, Nat.zero_add, ← hu]; exact hy) (fun u hu => by simp [i64C] at hu; rw [hu]; rfl) (by simp only; omega) h.bel (Nat.le_refl _) h.bel.size
  refine ⟨v, w5, hr, ⟨?_, hb⟩, hg⟩
  have e : (eaL g n c v1 z1 v2 z2).set 2 ⟨2, 1, v, z2.length + 1, z2.flatMap i64C ++ i64C x⟩ = eaL g n c v1 z1 v (z2 ++ [x]) := by
    unfold eaL
    rw [List.set_cons_succ, List.set_cons_succ, List.set_cons_zero, List.flatMap_append, List.length_append]; rfl
  rw [← e]; exact ho
/-- a box of another type is none of them -/
theorem EaS.box (h : EaS w0 w g n c v1 z1 v2 z2) {b T : Nat} {cs : Array Value} (hh : Has w b T cs) (hT : T ≠ 2) : v1.ownBlock ≠ some b ∧ v2.ownBlock ≠ some b := by
  have key : ∀ (i : Nat) (v : Value) (m : Nat) (xs : List Value), (eaL g n c v1 z1 v2 z2)[i]? = some ⟨2, 1, v, m, xs⟩ → v.ownBlock ≠ some b := fun i v m xs hi e => by
    rcases (h.own.own i _ hi).2 with ⟨e1, _⟩ | ⟨g', cp, cur, e1, _, e2, _⟩
    · have e1 : v = .slice none 0 0 := e1
      rw [e1] at e; cases e
    · have e1 : v = .slice (some ⟨g', 0, none⟩) m cp := e1
      rw [e1] at e
      injection e with e
      have e : g' = b := e
      subst e
      unfold Has at hh
      rw [hh] at e2
      injection e2 with e2
      injection e2 with _ e3
      exact hT e3
  exact ⟨key 1 _ _ _ rfl, key 2 _ _ _ rfl⟩
/-- what an append leaves: the rows, a box, what was made beside -/
structure RunS (w0 w W : World) (g n : Nat) (c : Nat → Int) (b T : Nat) (cs : Array Value) (v1 : Value) (z1 : List Int) (v2 : Value) (z2 : List Int) (w' : World) : Prop where
  ea : EaS w0 w' g n c v1 z1 v2 z2
  box : Has w' b T cs
  keep : ∀ k i u, w.heap.size ≤ k → W.cell? ⟨k, i, none⟩ = some u → w'.cell? ⟨k, i, none⟩ = some u
theorem EaS.run1 {W : World} (h : EaS w0 w g n c v1 z1 v2 z2) {b T : Nat} {cs : Array Value} (hh : Has w b T cs) (hT : T ≠ 2) (q : Below w.heap.size w W) (hn : z1.length ≤ 1000) (x : Int) {y : Nat} (hy : W.cell? ⟨y, 0, none⟩ = some (.int .i64 x)) :
    ∃ v w5, (Builtin.append_ #[41, 41] 41 #[v1, .slice (some ⟨y, 0, none⟩) 1 1]).run Try.prog W = .ok v w5 ∧ RunS w0 w W g n c b T cs v (z1 ++ [x]) v2 z2 w5 := by
  obtain ⟨v, w5, hr, h1, h2⟩ := (h.up q).app1 hn x hy
  refine ⟨v, w5, hr, h1, ?_, fun k i u hk hu => h2.cell hu fun e => ?_⟩
  · have hb := hh.up q
    exact (h2.block b hb.lt (fun e => (h.box hh hT).1 e.symm)).trans hb
  · have := ((h.own.own 1 _ rfl).lt k e.symm).2
    omega
theorem EaS.run2 {W : World} (h : EaS w0 w g n c v1 z1 v2 z2) {b T : Nat} {cs : Array Value} (hh : Has w b T cs) (hT : T ≠ 2) (q : Below w.heap.size w W) (hn : z2.length ≤ 1000) (x : Int) {y : Nat} (hy : W.cell? ⟨y, 0, none⟩ = some (.int .i64 x)) :
    ∃ v w5, (Builtin.append_ #[41, 41] 41 #[v2, .slice (some ⟨y, 0, none⟩) 1 1]).run Try.prog W = .ok v w5 ∧ RunS w0 w W g n c b T cs v1 z1 v (z2 ++ [x]) w5 := by
  obtain ⟨v, w5, hr, h1, h2⟩ := (h.up q).app2 hn x hy
  refine ⟨v, w5, hr, h1, ?_, fun k i u hk hu => h2.cell hu fun e => ?_⟩
  · have hb := hh.up q
    exact (h2.block b hb.lt (fun e => (h.box hh hT).2 e.symm)).trans hb
  · have := ((h.own.own 2 _ rfl).lt k e.symm).2
    omega
/-- two cells of a box -/
def BxC (b i j : Nat) (x y : Int) (w : World) : Prop := w.cell? ⟨b, i, none⟩ = some (.int .i64 x) ∧ w.cell? ⟨b, j, none⟩ = some (.int .i64 y)
end
end Go.Proofs.Ytjmgncjadfhmcaa
