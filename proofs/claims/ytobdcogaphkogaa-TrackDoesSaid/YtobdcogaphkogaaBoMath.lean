/- A book, plainly. -/
import Derived.Test.YtobdcogaphkogaaKit
namespace Go.Proofs.Ytobdcogaphkogaa
open Go.RowKit

/-- an item; a price that was set; a line; a book -/
structure Im where
  tag : Int
  grp : Int
  met : Int
  pri : Int
structure Pc where
  it : Int
  dy : Int
  n : Int
structure Ln where
  it : Int
  un : Int
  ch : Int
  fi : Int
  la : Int
structure Bs where
  I : List Im
  L : List Pc

def am64 (x : Int) : Bool := decide (-9223372036854775808 ≤ x) && decide (x ≤ 9223372036854775807)
theorem am64_iff {x : Int} : am64 x = true ↔ Am x := by unfold am64 Am; simp
def imB (x : Im) : Bool := decide (0 ≤ x.tag) && decide (x.tag ≤ 2) && decide (0 ≤ x.grp) && decide (x.grp ≤ 99) && decide (0 ≤ x.met) && decide (x.met ≤ 3) && decide (1 ≤ x.pri)
def bnewE (I : List Im) : Int := if 40 < I.length then 4 else if I.all imB = true then 0 else 1
def hasB (S : Bs) (i : Int) : Bool := decide (0 ≤ i) && decide (i < S.I.length)
def pri0 (S : Bs) (i : Int) : Int := (S.I[i.toNat]?.map Im.pri).getD 0
/-- what was set of an item -/
def ofIt (L : List Pc) (i : Int) : List Pc := L.filter fun x => decide (x.it = i)
def twiB (L : List Pc) (i d : Int) : Bool := L.any fun x => decide (x.it = i) && decide (x.dy = d)
def valB (S : Bs) (i d n : Int) : Bool := hasB S i && decide (1 ≤ d) && decide (d ≤ 1000000) && decide (1 ≤ n)
def setE (S : Bs) (i d n : Int) : Int :=
  if hasB S i = false then 5 else if d < 1 ∨ 1000000 < d ∨ n < 1 then 1 else if twiB S.L i d = true then 6 else if 100 ≤ (ofIt S.L i).length then 4 else 0
def setted (S : Bs) (i d n : Int) : Bs := ⟨S.I, S.L ++ [⟨i, d, n⟩]⟩
def setS (S : Bs) (i d n : Int) : Bs := if setE S i d n = 0 then setted S i d n else S
/-- the last one, up to a day -/
def bstep (i d : Int) (p : Int × Int) (x : Pc) : Int × Int := if x.it = i ∧ x.dy ≤ d ∧ p.1 < x.dy then (x.dy, x.n) else p
def best (S : Bs) (i d : Int) : Int × Int := S.L.foldl (bstep i d) (0, pri0 S i)
def priE (S : Bs) (i d : Int) : Int := if hasB S i = false then 5 else if d < 0 then 1 else 0
def priV (S : Bs) (i d : Int) : Int := if priE S i d = 0 then (best S i d).2 else 0
def lnB (S : Bs) (x : Ln) : Bool := hasB S x.it && decide (1 ≤ x.un) && decide (0 ≤ x.ch) && decide (1 ≤ x.fi) && decide (x.fi ≤ x.la) && decide (x.la ≤ 1000000)
def chkE (S : Bs) (l : List Ln) : Int := if 12 < l.length then 4 else if l.length = 0 then 1 else if l.all (lnB S) = true then 0 else 1

theorem hasB_iff {S : Bs} {i : Int} : hasB S i = true ↔ 0 ≤ i ∧ i < S.I.length := by simp [hasB]
theorem has_set (S : Bs) (i d n j : Int) : hasB (setS S i d n) j = hasB S j := by
  unfold setS; by_cases h : setE S i d n = 0 <;> simp [h, setted, hasB]
theorem I_set (S : Bs) (i d n : Int) : (setS S i d n).I = S.I := by
  unfold setS; by_cases h : setE S i d n = 0 <;> simp [h, setted]
theorem pri0_set (S : Bs) (i d n j : Int) : pri0 (setS S i d n) j = pri0 S j := by unfold pri0; rw [I_set]
theorem priE_set (S : Bs) (i d n j k : Int) : priE (setS S i d n) j k = priE S j k := by unfold priE; rw [has_set]
theorem setE_zero {S : Bs} {i d n : Int} (h : setE S i d n = 0) : hasB S i = true ∧ 1 ≤ d ∧ d ≤ 1000000 ∧ 1 ≤ n ∧ twiB S.L i d = false ∧ (ofIt S.L i).length < 100 := by
  unfold setE at h
  split at h
  · cases h
  · rename_i h1
    split at h
    · cases h
    · rename_i h2
      split at h
      · cases h
      · rename_i h3
        split at h
        · cases h
        · rename_i h4
          exact ⟨by simpa using h1, by omega, by omega, by omega, by simpa using h3, by omega⟩
theorem twiB_iff {L : List Pc} {i d : Int} : twiB L i d = true ↔ ∃ x ∈ L, x.it = i ∧ x.dy = d := by simp [twiB]

/-- prices of items that are there, of days that are from 1 to the last -/
structure FineB (S : Bs) : Prop where
  items : ∀ x ∈ S.I, imB x = true ∧ Am x.pri
  few : S.I.length ≤ 40
  day : ∀ x ∈ S.L, 1 ≤ x.dy ∧ x.dy ≤ 1000000
  am : ∀ x ∈ S.L, 1 ≤ x.n ∧ Am x.n
  one : S.L.Pairwise fun x y => ¬ (x.it = y.it ∧ x.dy = y.dy)
  most : ∀ i, (ofIt S.L i).length ≤ 100
theorem ofIt_snoc (L : List Pc) (i : Int) (x : Pc) : ofIt (L ++ [x]) i = ofIt L i ++ (if x.it = i then [x] else []) := by
  unfold ofIt
  rw [List.filter_append]
  by_cases h : x.it = i <;> simp [h]
theorem FineB.set {S : Bs} (h : FineB S) {i d n : Int} (hn : Am n) : FineB (setS S i d n) := by
  unfold setS
  by_cases q : setE S i d n = 0
  · rw [if_pos q]
    obtain ⟨_, a1, a2, a3, a4, a5⟩ := setE_zero q
    have nt : ∀ x ∈ S.L, ¬ (x.it = i ∧ x.dy = d) := fun x hx e => by
      have := twiB_iff.2 ⟨x, hx, e⟩
      rw [a4] at this; cases this
    refine ⟨h.items, h.few, fun x hx => ?_, fun x hx => ?_, ?_, fun j => ?_⟩
    · rcases List.mem_append.1 hx with hx | hx
      · exact h.day x hx
      · rw [List.mem_singleton.1 hx]; exact ⟨a1, a2⟩
    · rcases List.mem_append.1 hx with hx | hx
      · exact h.am x hx
      · rw [List.mem_singleton.1 hx]; exact ⟨a3, hn⟩
    · show (S.L ++ [_]).Pairwise _
      rw [List.pairwise_append]
      refine ⟨h.one, by simp, fun x hx y hy => ?_⟩
      rw [List.mem_singleton.1 hy]
      exact nt x hx
    · show (ofIt (S.L ++ [_]) j).length ≤ 100
      rw [ofIt_snoc]
      by_cases e : i = j
      · subst e; simp; omega
      · simp [e]; exact h.most j
  · rw [if_neg q]; exact h
/-- what the last one up to a day is -/
theorem fold_is (i d : Int) : ∀ (L : List Pc) (p : Int × Int), p.1 ≤ (L.foldl (bstep i d) p).1 ∧ (L.foldl (bstep i d) p = p ∨ ∃ x ∈ L, x.it = i ∧ x.dy ≤ d ∧ L.foldl (bstep i d) p = (x.dy, x.n)) ∧ ∀ x ∈ L, x.it = i → x.dy ≤ d → x.dy ≤ (L.foldl (bstep i d) p).1
  | [], p => ⟨Int.le_refl _, .inl rfl, fun x hx => by cases hx⟩
  | y :: l, p => by
    obtain ⟨h1, h2, h3⟩ := fold_is i d l (bstep i d p y)
    have hs : p.1 ≤ (bstep i d p y).1 := by
      unfold bstep; split
      · rename_i h; exact Int.le_of_lt h.2.2
      · exact Int.le_refl _
    refine ⟨Int.le_trans hs h1, ?_, fun x hx e1 e2 => ?_⟩
    · rcases h2 with h2 | ⟨x, hx, h2⟩
      · by_cases q : y.it = i ∧ y.dy ≤ d ∧ p.1 < y.dy
        · refine .inr ⟨y, by simp, q.1, q.2.1, ?_⟩
          rw [List.foldl_cons, h2]; unfold bstep; rw [if_pos q]
        · refine .inl ?_
          rw [List.foldl_cons, h2]; unfold bstep; rw [if_neg q]
      · exact .inr ⟨x, by simp [hx], h2⟩
    · rcases List.mem_cons.1 hx with rfl | hx
      · refine Int.le_trans ?_ h1
        unfold bstep; split
        · exact Int.le_refl _
        · rename_i q
          have : ¬ p.1 < x.dy := fun z => q ⟨e1, e2, z⟩
          omega
      · exact h3 x hx e1 e2
theorem best_is (S : Bs) (i d : Int) : 0 ≤ (best S i d).1 ∧ (best S i d = (0, pri0 S i) ∨ ∃ x ∈ S.L, x.it = i ∧ x.dy ≤ d ∧ best S i d = (x.dy, x.n)) ∧ ∀ x ∈ S.L, x.it = i → x.dy ≤ d → x.dy ≤ (best S i d).1 := fold_is i d S.L _
theorem best_setted (S : Bs) (i d n j k : Int) : best (setted S i d n) j k = bstep j k (best S j k) ⟨i, d, n⟩ := by
  unfold best setted
  rw [List.foldl_append]; rfl
/-- one of one day -/
theorem FineB.uniq {S : Bs} (h : FineB S) {x y : Pc} (hx : x ∈ S.L) (hy : y ∈ S.L) (e1 : x.it = y.it) (e2 : x.dy = y.dy) : x = y := by
  have hp := h.one
  obtain ⟨i, hi⟩ := List.getElem?_of_mem hx
  obtain ⟨j, hj⟩ := List.getElem?_of_mem hy
  obtain ⟨hi1, rfl⟩ := List.getElem?_eq_some_iff.1 hi
  obtain ⟨hj1, rfl⟩ := List.getElem?_eq_some_iff.1 hj
  rw [List.pairwise_iff_getElem] at hp
  rcases Nat.lt_trichotomy i j with q | q | q
  · exact absurd ⟨e1, e2⟩ (hp i j hi1 hj1 q)
  · subst q; rfl
  · exact absurd ⟨e1.symm, e2.symm⟩ (hp j i hj1 hi1 q)

/-- a row of prices of an item, in order of days -/
structure RowOf (S : Bs) (i : Int) (R : List (Int × Int)) : Prop where
  mem : ∀ e : Int × Int, e ∈ R ↔ e = (0, pri0 S i) ∨ (⟨i, e.1, e.2⟩ : Pc) ∈ S.L
  asc : R.Pairwise fun a b => a.1 < b.1
  len : R.length = 1 + (ofIt S.L i).length
/-- the place behind a day -/
structure Pl (R : List (Int × Int)) (d : Int) (k : Nat) : Prop where
  le : k ≤ R.length
  lo : ∀ j e, j < k → R[j]? = some e → e.1 ≤ d
  hi : ∀ j e, k ≤ j → R[j]? = some e → d < e.1
theorem RowOf.congr {S S' : Bs} {i : Int} {R : List (Int × Int)} (h : RowOf S i R) (hI : S'.I = S.I) (hL : ∀ x : Pc, x.it = i → (x ∈ S'.L ↔ x ∈ S.L)) (hl : (ofIt S'.L i).length = (ofIt S.L i).length) : RowOf S' i R :=
  ⟨fun e => by rw [h.mem, hL ⟨i, e.1, e.2⟩ rfl]; unfold pri0; rw [hI], h.asc, by rw [h.len, hl]⟩
theorem asc_get {R : List (Int × Int)} (h : R.Pairwise fun a b => a.1 < b.1) {i j : Nat} {a b : Int × Int} (ha : R[i]? = some a) (hb : R[j]? = some b) (hij : i < j) : a.1 < b.1 := by
  obtain ⟨h1, rfl⟩ := List.getElem?_eq_some_iff.1 ha
  obtain ⟨h2, rfl⟩ := List.getElem?_eq_some_iff.1 hb
  exact (List.pairwise_iff_getElem.1 h) i j h1 h2 hij
theorem RowOf.pos {S : Bs} {i : Int} {R : List (Int × Int)} (h : RowOf S i R) {d : Int} {k : Nat} (hd : 0 ≤ d) (hp : Pl R d k) : 1 ≤ k := by
  have hm : ((0, pri0 S i) : Int × Int) ∈ R := (h.mem _).2 (.inl rfl)
  obtain ⟨j, hj⟩ := List.getElem?_of_mem hm
  by_cases q : k ≤ j
  · have := hp.hi j _ q hj
    simp at this; omega
  · omega
/-- the entry ahead of the place is the last one up to the day -/
theorem RowOf.best {S : Bs} {i : Int} {R : List (Int × Int)} (h : RowOf S i R) {d : Int} {k : Nat} (hd : 0 ≤ d) (hp : Pl R d k) {e : Int × Int} (he : R[k - 1]? = some e) : best S i d = e := by
  have hk := h.pos hd hp
  obtain ⟨b0, b1, b2⟩ := best_is S i d
  have hb : Go.Proofs.Ytobdcogaphkogaa.best S i d ∈ R ∧ (Go.Proofs.Ytobdcogaphkogaa.best S i d).1 ≤ d := by
    rcases b1 with b1 | ⟨x, hx, e1, e2, e3⟩
    · rw [b1]; exact ⟨(h.mem _).2 (.inl rfl), hd⟩
    · rw [e3]; exact ⟨(h.mem _).2 (.inr (by rw [← e1]; exact hx)), e2⟩
  have he1 := hp.lo (k - 1) e (by omega) he
  have hle : e.1 ≤ (Go.Proofs.Ytobdcogaphkogaa.best S i d).1 := by
    rcases (h.mem e).1 (List.mem_of_getElem? he) with q | q
    · rw [q]; exact b0
    · exact b2 _ q rfl he1
  obtain ⟨j, hj⟩ := List.getElem?_of_mem hb.1
  have hjk : j < k := by
    by_cases q : k ≤ j
    · have := hp.hi j _ q hj; omega
    · omega
  by_cases q : j = k - 1
  · subst q; rw [hj] at he; exact Option.some.inj he
  · have := asc_get h.asc hj he (by omega); omega
/-- is there one of that day? -/
theorem RowOf.twi {S : Bs} {i : Int} {R : List (Int × Int)} (h : RowOf S i R) {d : Int} {k : Nat} (hd : 1 ≤ d) (hp : Pl R d k) {e : Int × Int} (he : R[k - 1]? = some e) : (e.1 == d) = twiB S.L i d := by
  have hk := h.pos (by omega) hp
  rw [Bool.eq_iff_iff, twiB_iff]
  constructor
  · intro q
    have q : e.1 = d := by simpa using q
    rcases (h.mem e).1 (List.mem_of_getElem? he) with z | z
    · rw [z] at q; simp at q; omega
    · exact ⟨_, z, rfl, q⟩
  · rintro ⟨x, hx, e1, e2⟩
    have hm : ((x.dy, x.n) : Int × Int) ∈ R := (h.mem _).2 (.inr (by rw [← e1]; exact hx))
    obtain ⟨j, hj⟩ := List.getElem?_of_mem hm
    have hjk : j < k := by
      by_cases q : k ≤ j
      · have := hp.hi j _ q hj; simp at this; omega
      · omega
    have he1 := hp.lo (k - 1) e (by omega) he
    by_cases q : j = k - 1
    · subst q; rw [hj] at he; rw [← Option.some.inj he]; simp [e2]
    · have := asc_get h.asc hj he (by omega); simp at this; omega
theorem mem_take_drop {α : Type} (l : List α) (k : Nat) (x : α) : x ∈ l ↔ x ∈ l.take k ∨ x ∈ l.drop k := by
  rw [← List.mem_append, List.take_append_drop]
/-- a row with one more, at its place -/
theorem RowOf.put {S : Bs} {i : Int} {R : List (Int × Int)} (h : RowOf S i R) {d n : Int} {k : Nat} (hp : Pl R d k) (hd : 1 ≤ d) (ht : twiB S.L i d = false) : RowOf (setted S i d n) i (R.take k ++ (d, n) :: R.drop k) := by
  refine ⟨fun e => ?_, ?_, ?_⟩
  · rw [List.mem_append, List.mem_cons]
    have h0 := h.mem e
    rw [mem_take_drop R k e] at h0
    show _ ↔ _ ∨ _ ∈ S.L ++ [(⟨i, d, n⟩ : Pc)]
    rw [List.mem_append, List.mem_singleton]
    have e0 : pri0 (setted S i d n) i = pri0 S i := rfl
    rw [e0]
    constructor
    · rintro (q | q | q)
      · rcases h0.1 (.inl q) with z | z
        · exact .inl z
        · exact .inr (.inl z)
      · rw [q]; exact .inr (.inr rfl)
      · rcases h0.1 (.inr q) with z | z
        · exact .inl z
        · exact .inr (.inl z)
    · rintro (q | q | q)
      · rcases h0.2 (.inl q) with z | z
        · exact .inl z
        · exact .inr (.inr z)
      · rcases h0.2 (.inr q) with z | z
        · exact .inl z
        · exact .inr (.inr z)
      · injection q with _ q1 q2
        refine .inr (.inl ?_)
        rw [← q1, ← q2]
  · rw [List.pairwise_append, List.pairwise_cons]
    refine ⟨h.asc.sublist (List.take_sublist _ _), ⟨fun b hb => ?_, h.asc.sublist (List.drop_sublist _ _)⟩, fun a ha b hb => ?_⟩
    · obtain ⟨j, hj⟩ := List.getElem?_of_mem hb
      rw [List.getElem?_drop] at hj
      exact hp.hi _ _ (by omega) hj
    · have hlo : a.1 < d := by
        obtain ⟨j, hj⟩ := List.getElem?_of_mem ha
        have hjk : j < k := by
          have := (List.getElem?_eq_some_iff.1 hj).1
          rw [List.length_take] at this; omega
        rw [List.getElem?_take, if_pos hjk] at hj
        have h1 := hp.lo j a hjk hj
        by_cases q : a.1 = d
        · rcases (h.mem a).1 (List.mem_of_getElem? hj) with z | z
          · rw [z] at q; simp at q; omega
          · have := twiB_iff.2 ⟨_, z, rfl, q⟩
            rw [ht] at this; cases this
        · omega
      rcases List.mem_cons.1 hb with rfl | hb
      · exact hlo
      · obtain ⟨j, hj⟩ := List.getElem?_of_mem hb
        rw [List.getElem?_drop] at hj
        have := hp.hi _ _ (by omega) hj
        omega
  · have e1 : (ofIt (setted S i d n).L i) = ofIt S.L i ++ [⟨i, d, n⟩] := by
      show ofIt (S.L ++ [_]) i = _
      rw [ofIt_snoc]; simp
    rw [e1]
    have := h.len
    have := hp.le
    simp only [List.length_append, List.length_take, List.length_cons, List.length_drop, List.length_nil]
    omega
/-- rows of other items stay -/
theorem RowOf.other {S : Bs} {i j d n : Int} {R : List (Int × Int)} (h : RowOf S j R) (hne : i ≠ j) : RowOf (setted S i d n) j R := by
  refine h.congr rfl (fun x e => ?_) ?_
  · show x ∈ S.L ++ [_] ↔ _
    rw [List.mem_append, List.mem_singleton]
    constructor
    · rintro (q | q)
      · exact q
      · rw [q] at e; exact absurd e hne
    · exact .inl
  · show (ofIt (S.L ++ [_]) j).length = _
    rw [ofIt_snoc, if_neg (by simpa using hne), List.append_nil]
end Go.Proofs.Ytobdcogaphkogaa
