/- The ledger, plainly. -/
import Derived.Test.YtiaocahcdbikhaaI
namespace Go.Proofs.Ytiaocahcdbikhaa
open Go.RowKit

/-- a posting; an entry; a ledger -/
structure Po where
  a : Int
  c : Int
  m : Int
structure En where
  per : Int
  ps : List Po
  tu : Bool
structure Ld where
  n : Nat
  op : Nat
  L : List En

def amB (x : Int) : Bool := decide (-9223372036854775808 ≤ x) && decide (x ≤ 9223372036854775807)
/-- is there such an account, and such a contract? -/
def knB (a c : Int) : Bool := decide (0 ≤ a) && decide (a ≤ 3) && decide (0 ≤ c) && decide (c < 40)
/-- postings of an account and a contract, together; those of a contract -/
def sumP (a c : Int) : List Po → Int
  | [] => 0
  | x :: l => (if x.a = a ∧ x.c = c then x.m else 0) + sumP a c l
def sumC (c : Int) : List Po → Int
  | [] => 0
  | x :: l => (if x.c = c then x.m else 0) + sumC c l
/-- postings of entries of periods from one to another one -/
def rng (a c lo hi : Int) : List En → Int
  | [] => 0
  | e :: l => (if lo ≤ e.per ∧ e.per ≤ hi then sumP a c e.ps else 0) + rng a c lo hi l
def wellB (ps : List Po) : Bool := decide (1 ≤ ps.length) && decide (ps.length ≤ 32) && ps.all fun x => knB x.a x.c
def evenB (ps : List Po) : Bool := ps.all fun x => sumC x.c ps == 0
/-- a movement, or a balance through whichever period, would be no amount -/
def overB9 (S : Ld) (p : Int) (ps : List Po) : Bool :=
  ps.any fun x => !amB (rng x.a x.c p p S.L + sumP x.a x.c ps) || (List.range S.n).any fun q => decide (p ≤ (q : Int)) && !amB (rng x.a x.c 0 q S.L + sumP x.a x.c ps)
/-- the first error of postings but that of a number that leaves 64 bits -/
def refE (S : Ld) (p : Int) (ps : List Po) : Int :=
  if p < 0 ∨ (S.n : Int) ≤ p ∨ wellB ps = false then 1 else if p < S.op then 7 else if evenB ps = false then 10 else if 5000 ≤ S.L.length then 4 else 0
def postE (S : Ld) (p : Int) (ps : List Po) : Int := if refE S p ps ≠ 0 then refE S p ps else if overB9 S p ps = true then 3 else 0
def posted (S : Ld) (p : Int) (ps : List Po) : Ld := { S with L := S.L ++ [⟨p, ps, false⟩] }
def postS (S : Ld) (p : Int) (ps : List Po) : Ld := if postE S p ps = 0 then posted S p ps else S
def postN (S : Ld) (p : Int) (ps : List Po) : Int := if postE S p ps = 0 then S.L.length else 0
def negP (ps : List Po) : List Po := ps.map fun x => ⟨x.a, x.c, -x.m⟩
def leastB (ps : List Po) : Bool := ps.any fun x => x.m == -9223372036854775808
def turn (e : En) : En := { e with tu := true }
def turned (S : Ld) (i j : Nat) : Ld := { S with L := (S.L.modify i turn).modify j turn }
def revE (S : Ld) (i p : Int) : Int :=
  if i < 0 then 5 else match S.L[i.toNat]? with
    | none => 5
    | some e => if e.tu = true then 6 else if leastB e.ps = true then 3 else postE S p (negP e.ps)
def revS (S : Ld) (i p : Int) : Ld :=
  if revE S i p = 0 then match S.L[i.toNat]? with
    | none => S
    | some e => turned (posted S p (negP e.ps)) i.toNat S.L.length
  else S
def revN (S : Ld) (i p : Int) : Int := if revE S i p = 0 then S.L.length else 0
def cloE (S : Ld) (p : Int) : Int := if p = S.op ∧ S.op < S.n then 0 else 1
def cloS (S : Ld) (p : Int) : Ld := if cloE S p = 0 then { S with op := S.op + 1 } else S
/-- movements, balances, totals -/
def movV (S : Ld) (a c p : Int) : Int := if p < 0 ∨ (S.n : Int) ≤ p then 0 else rng a c p p S.L
def balV (S : Ld) (a c p : Int) : Int := if p < 0 ∨ (S.n : Int) ≤ p then 0 else rng a c 0 p S.L
def totX (S : Ld) (a p : Int) : Int := sumTo (fun k => rng a k 0 p S.L) 40
def totE (S : Ld) (a p : Int) : Int := if a < 0 ∨ 3 < a ∨ p < 0 ∨ (S.n : Int) ≤ p then 1 else if amB (totX S a p) = true then 0 else 3
def totV (S : Ld) (a p : Int) : Int := if totE S a p = 0 then totX S a p else 0

/-- an entry as it is let in -/
structure EnOk (n : Nat) (e : En) : Prop where
  p0 : 0 ≤ e.per
  p1 : e.per < n
  well : wellB e.ps = true
  even : evenB e.ps = true
  am : ∀ x ∈ e.ps, Am x.m
structure Fine (S : Ld) : Prop where
  n0 : 1 ≤ S.n
  n1 : S.n ≤ 240
  op : S.op ≤ S.n
  few : S.L.length ≤ 5000
  ok : ∀ e ∈ S.L, EnOk S.n e
  mov : ∀ a c q : Int, 0 ≤ q → q < S.n → Am (rng a c q q S.L)
  bal : ∀ a c q : Int, 0 ≤ q → q < S.n → Am (rng a c 0 q S.L)

/-- the four accounts are all -/
theorem four (c : Int) (ps : List Po) (h : ∀ x ∈ ps, 0 ≤ x.a ∧ x.a ≤ 3) : sumP 0 c ps + sumP 1 c ps + sumP 2 c ps + sumP 3 c ps = sumC c ps := by
  induction ps with
  | nil => rfl
  | cons x l ih =>
    have i := ih fun y hy => h y (by simp [hy])
    have k := h x (by simp)
    simp only [sumP, sumC]
    by_cases hc : x.c = c
    · simp only [hc, and_true, if_true]
      have : x.a = 0 ∨ x.a = 1 ∨ x.a = 2 ∨ x.a = 3 := by omega
      rcases this with e | e | e | e <;> simp only [e] <;> simp <;> omega
    · simp only [hc, and_false, if_false]
      omega
end Go.Proofs.Ytiaocahcdbikhaa
