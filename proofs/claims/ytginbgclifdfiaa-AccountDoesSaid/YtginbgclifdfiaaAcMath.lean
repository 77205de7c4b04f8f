/- The ledger, plainly. -/
import Derived.Test.YtginbgclifdfiaaI
namespace Go.Proofs.Ytginbgclifdfiaa
open Go.RowKit

/-- a posting; an entry; a ledger -/
structure Po where
  a : Int
  c : Int
  m : Int
structure En where
  per : Int
  ps : List Po
  tu : Bool
structure Ld where
  n : Nat
  op : Nat
  L : List En

def amB (x : Int) : Bool := decide (-9223372036854775808 ≤ x) && decide (x ≤ 9223372036854775807)
theorem amB_iff {x : Int} : amB x = true ↔ Am x := by unfold amB Am; simp
/-- is there such an account, and such a contract? -/
def knB (a c : Int) : Bool := decide (0 ≤ a) && decide (a ≤ 3) && decide (0 ≤ c) && decide (c < 40)
/-- postings of an account and a contract, together; those of a contract -/
def sumP (a c : Int) : List Po → Int
  | [] => 0
  | x :: l => (if x.a = a ∧ x.c = c then x.m else 0) + sumP a c l
def sumC (c : Int) : List Po → Int
  | [] => 0
  | x :: l => (if x.c = c then x.m else 0) + sumC c l
/-- postings of entries of periods from one to another one -/
def rng (a c lo hi : Int) : List En → Int
  | [] => 0
  | e :: l => (if lo ≤ e.per ∧ e.per ≤ hi then sumP a c e.ps else 0) + rng a c lo hi l
def wellB (ps : List Po) : Bool := decide (1 ≤ ps.length) && decide (ps.length ≤ 32) && ps.all fun x => knB x.a x.c
def evenB (ps : List Po) : Bool := ps.all fun x => sumC x.c ps == 0
/-- a movement, or a balance through whichever period, would be no amount -/
def overB (S : Ld) (p : Int) (ps : List Po) : Bool :=
  ps.any fun x => !amB (rng x.a x.c p p S.L + sumP x.a x.c ps) || (List.range S.n).any fun q => decide (p ≤ (q : Int)) && !amB (rng x.a x.c 0 q S.L + sumP x.a x.c ps)
/-- the first error of postings but that of a number that leaves 64 bits -/
def refE (S : Ld) (p : Int) (ps : List Po) : Int :=
  if p < 0 ∨ (S.n : Int) ≤ p ∨ wellB ps = false then 1 else if p < S.op then 7 else if evenB ps = false then 10 else if 5000 ≤ S.L.length then 4 else 0
def postE (S : Ld) (p : Int) (ps : List Po) : Int := if refE S p ps ≠ 0 then refE S p ps else if overB S p ps = true then 3 else 0
def posted (S : Ld) (p : Int) (ps : List Po) : Ld := { S with L := S.L ++ [⟨p, ps, false⟩] }
def postS (S : Ld) (p : Int) (ps : List Po) : Ld := if postE S p ps = 0 then posted S p ps else S
def postN (S : Ld) (p : Int) (ps : List Po) : Int := if postE S p ps = 0 then S.L.length else 0
def negP (ps : List Po) : List Po := ps.map fun x => ⟨x.a, x.c, -x.m⟩
def leastB (ps : List Po) : Bool := ps.any fun x => x.m == -9223372036854775808
def turn (e : En) : En := { e with tu := true }
def turned (S : Ld) (i j : Nat) : Ld := { S with L := (S.L.modify i turn).modify j turn }
def revE (S : Ld) (i p : Int) : Int :=
  if i < 0 then 5 else match S.L[i.toNat]? with
    | none => 5
    | some e => if e.tu = true then 6 else if leastB e.ps = true then 3 else postE S p (negP e.ps)
def revS (S : Ld) (i p : Int) : Ld :=
  if revE S i p = 0 then match S.L[i.toNat]? with
    | none => S
    | some e => turned (posted S p (negP e.ps)) i.toNat S.L.length
  else S
def revN (S : Ld) (i p : Int) : Int := if revE S i p = 0 then S.L.length else 0
def cloE (S : Ld) (p : Int) : Int := if p = S.op ∧ S.op < S.n then 0 else 1
def cloS (S : Ld) (p : Int) : Ld := if cloE S p = 0 then { S with op := S.op + 1 } else S
/-- movements, balances, totals -/
def movV (S : Ld) (a c p : Int) : Int := if p < 0 ∨ (S.n : Int) ≤ p then 0 else rng a c p p S.L
def balV (S : Ld) (a c p : Int) : Int := if p < 0 ∨ (S.n : Int) ≤ p then 0 else rng a c 0 p S.L
def totX (S : Ld) (a p : Int) : Int := sumTo (fun k => rng a k 0 p S.L) 40
def totE (S : Ld) (a p : Int) : Int := if a < 0 ∨ 3 < a ∨ p < 0 ∨ (S.n : Int) ≤ p then 1 else if amB (totX S a p) = true then 0 else 3
def totV (S : Ld) (a p : Int) : Int := if totE S a p = 0 then totX S a p else 0

/-- an entry as it is let in -/
structure EnOk (n : Nat) (e : En) : Prop where
  p0 : 0 ≤ e.per
  p1 : e.per < n
  well : wellB e.ps = true
  even : evenB e.ps = true
  am : ∀ x ∈ e.ps, Am x.m
structure Fine (S : Ld) : Prop where
  n0 : 1 ≤ S.n
  n1 : S.n ≤ 240
  op : S.op ≤ S.n
  few : S.L.length ≤ 5000
  ok : ∀ e ∈ S.L, EnOk S.n e
  mov : ∀ a c q : Int, 0 ≤ q → q < S.n → Am (rng a c q q S.L)
  bal : ∀ a c q : Int, 0 ≤ q → q < S.n → Am (rng a c 0 q S.L)

theorem am0 : Am 0 := by unfold Am; omega
theorem fine_new (n : Nat) (h0 : 1 ≤ n) (h1 : n ≤ 240) : Fine ⟨n, 0, []⟩ :=
  ⟨h0, h1, Nat.zero_le _, Nat.zero_le _, by simp, fun _ _ _ _ _ => am0, fun _ _ _ _ _ => am0⟩
theorem sumP_append (a c : Int) (l l' : List Po) : sumP a c (l ++ l') = sumP a c l + sumP a c l' := by
  induction l with
  | nil => simp [sumP]
  | cons x l ih => simp only [List.cons_append, sumP, ih]; omega
theorem rng_append (a c lo hi : Int) (l l' : List En) : rng a c lo hi (l ++ l') = rng a c lo hi l + rng a c lo hi l' := by
  induction l with
  | nil => simp [rng]
  | cons x l ih => simp only [List.cons_append, rng, ih]; omega
theorem rng_one (a c lo hi p : Int) (ps : List Po) (t : Bool) : rng a c lo hi [⟨p, ps, t⟩] = if lo ≤ p ∧ p ≤ hi then sumP a c ps else 0 := by simp [rng]
theorem rng_step (a c q : Int) (l : List En) (hq : 0 ≤ q) : rng a c 0 q l = rng a c 0 (q - 1) l + rng a c q q l := by
  induction l with
  | nil => rfl
  | cons x l ih =>
    simp only [rng, ih]
    by_cases h1 : 0 ≤ x.per ∧ x.per ≤ q
    · by_cases h2 : x.per = q
      · rw [if_pos h1, if_neg (by omega), if_pos (by omega)]; omega
      · rw [if_pos h1, if_pos (by omega), if_neg (by omega)]; omega
    · rw [if_neg h1, if_neg (by omega), if_neg (by omega)]; omega
theorem rng_none (a c : Int) (l : List En) : rng a c 0 (-1) l = 0 := by
  induction l with
  | nil => rfl
  | cons x l ih => simp only [rng, ih]; rw [if_neg (by omega)]; rfl
/-- balances are movements, together -/
theorem rng_sum (a c : Int) (l : List En) (k : Nat) : sumTo (fun i => rng a c i i l) k = rng a c 0 ((k : Int) - 1) l := by
  induction k with
  | zero => simp only [sumTo]; rw [show ((0 : Nat) : Int) - 1 = -1 by omega, rng_none]
  | succ k ih =>
    simp only [sumTo, ih]
    rw [show (((k + 1 : Nat) : Int) - 1) = (k : Int) by omega, rng_step a c k l (by omega)]
/-- turned entries count as they did -/
theorem rng_modify (a c lo hi : Int) (l : List En) (i : Nat) : rng a c lo hi (l.modify i turn) = rng a c lo hi l := by
  induction l generalizing i with
  | nil => simp [rng]
  | cons x l ih =>
    cases i with
    | zero => simp [List.modify, rng, turn]
    | succ i => rw [List.modify_succ_cons]; simp only [rng, ih]
theorem rng_turned (S : Ld) (i j : Nat) (a c lo hi : Int) : rng a c lo hi (turned S i j).L = rng a c lo hi S.L := by
  unfold turned; rw [rng_modify, rng_modify]
theorem sumP_neg (a c : Int) (l : List Po) : sumP a c (negP l) = -sumP a c l := by
  induction l with
  | nil => rfl
  | cons x l ih =>
    have : sumP a c (negP (x :: l)) = (if x.a = a ∧ x.c = c then -x.m else 0) + sumP a c (negP l) := rfl
    rw [this, ih]
    simp only [sumP]
    split <;> omega
theorem sumC_neg (c : Int) (l : List Po) : sumC c (negP l) = -sumC c l := by
  induction l with
  | nil => rfl
  | cons x l ih =>
    have : sumC c (negP (x :: l)) = (if x.c = c then -x.m else 0) + sumC c (negP l) := rfl
    rw [this, ih]
    simp only [sumC]
    split <;> omega
theorem sumC_none (c : Int) (l : List Po) (h : ∀ x ∈ l, x.c ≠ c) : sumC c l = 0 := by
  induction l with
  | nil => rfl
  | cons x l ih =>
    simp only [sumC]
    rw [if_neg (h x (by simp)), ih fun y hy => h y (by simp [hy])]; rfl
theorem sumP_none (a c : Int) (l : List Po) (h : ∀ x ∈ l, ¬ (x.a = a ∧ x.c = c)) : sumP a c l = 0 := by
  induction l with
  | nil => rfl
  | cons x l ih =>
    simp only [sumP]
    rw [if_neg (h x (by simp)), ih fun y hy => h y (by simp [hy])]; rfl
theorem even_all {ps : List Po} (h : evenB ps = true) (c : Int) : sumC c ps = 0 := by
  by_cases q : ∃ x ∈ ps, x.c = c
  · obtain ⟨x, hx, rfl⟩ := q
    have := List.all_eq_true.1 h x hx
    simpa using this
  · exact sumC_none c ps fun x hx e => q ⟨x, hx, e⟩
theorem knB_iff {a c : Int} : knB a c = true ↔ 0 ≤ a ∧ a ≤ 3 ∧ 0 ≤ c ∧ c < 40 := by
  unfold knB; simp only [Bool.and_eq_true, decide_eq_true_eq]; omega
theorem well_iff {ps : List Po} : wellB ps = true ↔ 1 ≤ ps.length ∧ ps.length ≤ 32 ∧ ∀ x ∈ ps, knB x.a x.c = true := by
  unfold wellB; simp only [Bool.and_eq_true, decide_eq_true_eq, List.all_eq_true, and_assoc]
/-- the four accounts are all -/
theorem four (c : Int) (ps : List Po) (h : ∀ x ∈ ps, 0 ≤ x.a ∧ x.a ≤ 3) : sumP 0 c ps + sumP 1 c ps + sumP 2 c ps + sumP 3 c ps = sumC c ps := by
  induction ps with
  | nil => rfl
  | cons x l ih =>
    have i := ih fun y hy => h y (by simp [hy])
    have k := h x (by simp)
    simp only [sumP, sumC]
    by_cases hc : x.c = c
    · simp only [hc, and_true, if_true]
      have : x.a = 0 ∨ x.a = 1 ∨ x.a = 2 ∨ x.a = 3 := by omega
      rcases this with e | e | e | e <;> simp only [e] <;> simp <;> omega
    · simp only [hc, and_false, if_false]
      omega
theorem four_rng (n : Nat) (c lo hi : Int) (l : List En) (h : ∀ e ∈ l, EnOk n e) : rng 0 c lo hi l + rng 1 c lo hi l + rng 2 c lo hi l + rng 3 c lo hi l = 0 := by
  induction l with
  | nil => rfl
  | cons e l ih =>
    have i := ih fun y hy => h y (by simp [hy])
    have k := h e (by simp)
    have f := four c e.ps (fun x hx => by have := knB_iff.1 ((well_iff.1 k.well).2.2 x hx); omega)
    rw [even_all k.even] at f
    simp only [rng]
    by_cases q : lo ≤ e.per ∧ e.per ≤ hi
    · simp only [if_pos q]; omega
    · simp only [if_neg q]; omega
theorem rng_unknown {n : Nat} {a c lo hi : Int} {l : List En} (h : ∀ e ∈ l, EnOk n e) (hk : knB a c = false) : rng a c lo hi l = 0 := by
  induction l with
  | nil => rfl
  | cons e l ih =>
    have i := ih fun y hy => h y (by simp [hy])
    have k := h e (by simp)
    have s := sumP_none a c e.ps (fun x hx q => by
      have := (well_iff.1 k.well).2.2 x hx
      rw [q.1, q.2, hk] at this
      cases this)
    simp only [rng, i, s]
    split <;> rfl

theorem postE_zero {S : Ld} {p : Int} {ps : List Po} (h : postE S p ps = 0) : 0 ≤ p ∧ p < S.n ∧ wellB ps = true ∧ S.op ≤ p ∧ evenB ps = true ∧ S.L.length < 5000 ∧ overB S p ps = false := by
  unfold postE refE at h
  by_cases h1 : p < 0 ∨ (S.n : Int) ≤ p ∨ wellB ps = false
  · simp [h1] at h
  · by_cases h2 : p < S.op
    · simp [h1, h2] at h
    · by_cases h3 : evenB ps = false
      · simp [h1, h2, h3] at h
      · by_cases h4 : 5000 ≤ S.L.length
        · simp [h1, h2, h3, h4] at h
        · by_cases h5 : overB S p ps = true
          · simp [h1, h2, h3, h4, h5] at h
          · have e3 : evenB ps = true := by cases q : evenB ps <;> simp_all
            have e5 : overB S p ps = false := by cases q : overB S p ps <;> simp_all
            have e1 : wellB ps = true := by cases q : wellB ps <;> simp_all
            exact ⟨by omega, by omega, e1, by omega, e3, by omega, e5⟩
theorem over_no {S : Ld} {p : Int} {ps : List Po} (h : overB S p ps = false) {x : Po} (hx : x ∈ ps) :
    Am (rng x.a x.c p p S.L + sumP x.a x.c ps) ∧ ∀ q : Int, p ≤ q → 0 ≤ q → q < S.n → Am (rng x.a x.c 0 q S.L + sumP x.a x.c ps) := by
  have := List.any_eq_false.1 h x hx
  simp only [Bool.or_eq_true, not_or, Bool.not_eq_true', Bool.not_eq_false, List.any_eq_true, not_exists, not_and, List.mem_range, Bool.and_eq_true, decide_eq_true_eq] at this
  refine ⟨amB_iff.1 this.1, fun q h1 h2 h3 => ?_⟩
  have := this.2 q.toNat (by omega) (by omega)
  rw [show ((q.toNat : Nat) : Int) = q by omega] at this
  exact amB_iff.1 this
theorem fine_posted {S : Ld} {p : Int} {ps : List Po} (F : Fine S) (hm : ∀ x ∈ ps, Am x.m) (h : postE S p ps = 0) : Fine (posted S p ps) := by
  obtain ⟨p0, p1, hw, ho, he, hl, hv⟩ := postE_zero h
  have key : ∀ a c : Int, (∃ x ∈ ps, x.a = a ∧ x.c = c) ∨ sumP a c ps = 0 := fun a c => by
    by_cases q : ∃ x ∈ ps, x.a = a ∧ x.c = c
    · exact .inl q
    · exact .inr (sumP_none a c ps fun x hx e => q ⟨x, hx, e⟩)
  refine ⟨F.n0, F.n1, F.op, by show (S.L ++ [_]).length ≤ 5000; rw [List.length_append]; simp; omega, fun e hE => ?_, fun a c q h0 h1 => ?_, fun a c q h0 h1 => ?_⟩
  · rcases List.mem_append.1 hE with hE | hE
    · exact F.ok e hE
    · rw [List.mem_singleton.1 hE]
      exact ⟨p0, p1, hw, he, hm⟩
  · show Am (rng a c q q (S.L ++ [_]))
    have f := F.mov a c q h0 h1
    rw [rng_append, rng_one]
    by_cases hq : q ≤ p ∧ p ≤ q
    · rw [if_pos hq]
      obtain rfl : q = p := by omega
      rcases key a c with ⟨x, hx, rfl, rfl⟩ | e
      · exact (over_no hv hx).1
      · rw [e, Int.add_zero]; exact f
    · rw [if_neg hq, Int.add_zero]; exact f
  · show Am (rng a c 0 q (S.L ++ [_]))
    have f := F.bal a c q h0 h1
    rw [rng_append, rng_one]
    by_cases hq : 0 ≤ p ∧ p ≤ q
    · rw [if_pos hq]
      rcases key a c with ⟨x, hx, rfl, rfl⟩ | e
      · exact (over_no hv hx).2 q hq.2 h0 h1
      · rw [e, Int.add_zero]; exact f
    · rw [if_neg hq, Int.add_zero]; exact f
theorem fine_post {S : Ld} {p : Int} {ps : List Po} (F : Fine S) (hm : ∀ x ∈ ps, Am x.m) : Fine (postS S p ps) := by
  unfold postS
  split
  · rename_i h; exact fine_posted F hm h
  · exact F
theorem mem_modify {l : List En} {i : Nat} {e : En} (h : e ∈ l.modify i turn) : e ∈ l ∨ ∃ e0 ∈ l, e = turn e0 := by
  induction l generalizing i with
  | nil => simp at h
  | cons x l ih =>
    cases i with
    | zero =>
      simp only [List.modify_zero_cons, List.mem_cons] at h
      rcases h with rfl | h
      · exact .inr ⟨x, by simp, rfl⟩
      · exact .inl (by simp [h])
    | succ i =>
      rw [List.modify_succ_cons, List.mem_cons] at h
      rcases h with rfl | h
      · exact .inl (by simp)
      · rcases ih h with h | ⟨e0, h0, rfl⟩
        · exact .inl (by simp [h])
        · exact .inr ⟨e0, by simp [h0], rfl⟩
theorem fine_turned {S : Ld} (F : Fine S) (i j : Nat) : Fine (turned S i j) := by
  refine ⟨F.n0, F.n1, F.op, by show ((S.L.modify i turn).modify j turn).length ≤ 5000; simpa using F.few, fun e hE => ?_, fun a c q h0 h1 => ?_, fun a c q h0 h1 => ?_⟩
  · have one : ∀ e ∈ S.L.modify i turn, EnOk S.n e := fun e he => by
      rcases mem_modify he with h | ⟨e0, h, rfl⟩
      · exact F.ok e h
      · have k := F.ok e0 h; exact ⟨k.p0, k.p1, k.well, k.even, k.am⟩
    rcases mem_modify hE with h | ⟨e0, h, rfl⟩
    · exact one e h
    · have k := one e0 h; exact ⟨k.p0, k.p1, k.well, k.even, k.am⟩
  · rw [rng_turned]; exact F.mov a c q h0 h1
  · rw [rng_turned]; exact F.bal a c q h0 h1
theorem leastB_no {ps : List Po} (h : leastB ps = false) (hm : ∀ x ∈ ps, Am x.m) : ∀ x ∈ negP ps, Am x.m := by
  intro y hy
  obtain ⟨x, hx, rfl⟩ := List.mem_map.1 hy
  have h1 := List.any_eq_false.1 h x hx
  have h2 := hm x hx
  simp only [beq_iff_eq] at h1
  unfold Am at h2 ⊢
  show -9223372036854775808 ≤ -x.m ∧ -x.m ≤ 9223372036854775807
  omega
theorem rev_some {S : Ld} {i p : Int} (h : revE S i p = 0) : ∃ e, 0 ≤ i ∧ S.L[i.toNat]? = some e ∧ e.tu = false ∧ leastB e.ps = false ∧ postE S p (negP e.ps) = 0 ∧ revS S i p = turned (posted S p (negP e.ps)) i.toNat S.L.length := by
  have h0 := h
  unfold revE at h
  by_cases hi : i < 0
  · rw [if_pos hi] at h; omega
  · rw [if_neg hi] at h
    cases q : S.L[i.toNat]? with
    | none => rw [q] at h; simp at h
    | some e =>
      rw [q] at h
      by_cases h1 : e.tu = true
      · simp [h1] at h
      · by_cases h2 : leastB e.ps = true
        · simp [h1, h2] at h
        · simp only [h1, h2] at h
          refine ⟨e, by omega, rfl, by simpa using h1, by simpa using h2, by simpa using h, ?_⟩
          unfold revS
          rw [if_pos h0, q]
theorem fine_rev {S : Ld} {i p : Int} (F : Fine S) : Fine (revS S i p) := by
  by_cases h : revE S i p = 0
  · obtain ⟨e, _, hg, _, hl, hp, hs⟩ := rev_some h
    rw [hs]
    exact fine_turned (fine_posted F (leastB_no hl (F.ok e (List.mem_of_getElem? hg)).am) hp) _ _
  · unfold revS; rw [if_neg h]; exact F
theorem fine_clo {S : Ld} {p : Int} (F : Fine S) : Fine (cloS S p) := by
  unfold cloS cloE
  by_cases h : p = S.op ∧ S.op < S.n
  · rw [if_pos h]; exact ⟨F.n0, F.n1, by show S.op + 1 ≤ S.n; omega, F.few, F.ok, F.mov, F.bal⟩
  · rw [if_neg h]; exact F
end Go.Proofs.Ytginbgclifdfiaa
