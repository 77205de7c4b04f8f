/- The law's own functions over any contract of a call's own: what the program's functions are to do; do, large. -/
import Derived.ProofKit
import Derived.OpenShut
import Derived.ShutString
import Derived.ChangeOld
import Derived.ChangeSlices
import Derived.SizedLaws
import Derived.Deep.Slices
import Derived.Deep.Fields
import Derived.Test.YtklaonoekmhakaaGreatCtMem
import Derived.Test.YtklaonoekmhakaaGreatBoD
import Derived.Test.YtklaonoekmhakaaGreatD
import Derived.Test.YtklaonoekmhakaaGreatBoA
namespace Go.Proofs.YtklaonoekmhakaaGreat
open Go.RowKit

def Op4.val (x : Op4) : Value := .agg #[.int .i64 x.k, .int .i64 x.du, .int .i64 x.dy, .int .i64 x.n]
def Ct.opE (S : Ct) (x : Op4) : Int := if x.k = 1 then S.onwE x.dy x.n else if x.k = 2 then S.afrE x.dy x.n else S.telE x.du x.dy x.n
def Ct.opS (S : Ct) (x : Op4) : Ct := if x.k = 1 then S.onwS x.dy x.n else if x.k = 2 then S.afrS x.dy x.n else S.telS x.du x.dy x.n
theorem FineC.op {S : Ct} (h : FineC S) (x : Op4) : FineC (S.opS x) := by
  unfold Ct.opS
  split
  · exact h.onw1
  · split
    · exact h.afr1
    · exact h.tel _ _ _
/-- what stands at a place, or nothing -/
def Ct.has (S : Ct) (k : Int) : Bool := decide (0 ≤ k) && decide (k < S.n)
def Ct.altA (S : Ct) (k : Int) : Int := if S.has k = true then S.alt k.toNat else 0
def Ct.earA (S : Ct) (k day : Int) : Int := if S.has k = true then S.ear day k.toNat else 0
/-- what Duty answers -/
def DutR (w : World) (S : Ct) (k : Int) (e : Ending) (w' : World) : Prop :=
  Below w.heap.size w w' ∧ ((S.has k = false ∧ e = .returned (.tuple #[.agg #[.slice none 0 0, .int .i64 0, .int .i64 0, .int .i64 0, .int .i64 0, .int .i64 0], .bool false])) ∨
    (S.has k = true ∧ ∃ a c, e = .returned (.tuple #[(S.tr k.toNat).d.val a c, .bool true]) ∧ InA w' a (S.tr k.toNat).d.ls))
/-- a contract of a call's own, in a world that goes on from another one: what the program's functions do to it -/
structure CfK (Cf : World → World → Nat → Ct → Prop) : Prop where
  up : ∀ {w0 w w' : World} {c : Nat} {S : Ct}, Cf w0 w c S → Below w.heap.size w w' → Cf w0 w' c S
  bel : ∀ {w0 w : World} {c : Nat} {S : Ct}, Cf w0 w c S → Below w0.heap.size w0 w
  fine : ∀ {w0 w : World} {c : Nat} {S : Ct}, Cf w0 w c S → FineC S
  tell : ∀ {w0 w : World} {c : Nat} {S : Ct} (du dy n : Int), Cf w0 w c S → Am n → Calls Tryz.prog 31 #[.pointer (some ⟨c, 0, none⟩), .int .i64 du, .int .i64 dy, .int .i64 n] w fun e w' => e = .returned (.int .i64 (S.telE du dy n)) ∧ Cf w0 w' c (S.telS du dy n)
  onward : ∀ {w0 w : World} {c : Nat} {S : Ct} (dy n : Int), Cf w0 w c S → Am n → Calls Tryz.prog 28 #[.pointer (some ⟨c, 0, none⟩), .int .i64 dy, .int .i64 n] w fun e w' => e = .returned (.int .i64 (S.onwE dy n)) ∧ Cf w0 w' c (S.onwS dy n)
  afresh : ∀ {w0 w : World} {c : Nat} {S : Ct} (dy n : Int), Cf w0 w c S → Am n → Calls Tryz.prog 30 #[.pointer (some ⟨c, 0, none⟩), .int .i64 dy, .int .i64 n] w fun e w' => e = .returned (.int .i64 (S.afrE dy n)) ∧ Cf w0 w' c (S.afrS dy n)
  price : ∀ {w0 w : World} {c : Nat} {S : Ct}, Cf w0 w c S → Calls Tryz.prog 16 #[.pointer (some ⟨c, 0, none⟩)] w fun e w' => e = .returned (.int .i64 S.N) ∧ Below w.heap.size w w'
  day : ∀ {w0 w : World} {c : Nat} {S : Ct}, Cf w0 w c S → Calls Tryz.prog 17 #[.pointer (some ⟨c, 0, none⟩)] w fun e w' => e = .returned (.int .i64 S.la) ∧ Below w.heap.size w w'
  many : ∀ {w0 w : World} {c : Nat} {S : Ct}, Cf w0 w c S → Calls Tryz.prog 18 #[.pointer (some ⟨c, 0, none⟩)] w fun e w' => e = .returned (.int .i64 (S.n : Int)) ∧ Below w.heap.size w w'
  allot : ∀ {w0 w : World} {c : Nat} {S : Ct} (k : Int), Cf w0 w c S → Calls Tryz.prog 21 #[.pointer (some ⟨c, 0, none⟩), .int .i64 k] w fun e w' => e = .returned (.int .i64 (S.altA k)) ∧ Below w.heap.size w w'
  earned : ∀ {w0 w : World} {c : Nat} {S : Ct} (k day : Int), Cf w0 w c S → Calls Tryz.prog 23 #[.pointer (some ⟨c, 0, none⟩), .int .i64 k, .int .i64 day] w fun e w' => e = .returned (.int .i64 (S.earA k day)) ∧ Below w.heap.size w w'
  all : ∀ {w0 w : World} {c : Nat} {S : Ct} (day : Int), Cf w0 w c S → Calls Tryz.prog 19 #[.pointer (some ⟨c, 0, none⟩), .int .i64 day] w fun e w' => e = .returned (.int .i64 (S.all day)) ∧ Below w.heap.size w w'
  duty : ∀ {w0 w : World} {c : Nat} {S : Ct} (k : Int), Cf w0 w c S → Calls Tryz.prog 25 #[.pointer (some ⟨c, 0, none⟩), .int .i64 k] w (DutR w S k)
section
variable {Cf : World → World → Nat → Ct → Prop} {w0 w : World} {c : Nat} {S : Ct}
set_option maxRecDepth 100000 in
set_option maxHeartbeats 4000000 in
theorem do16_any (K : CfK Cf) (h : Cf w0 w c S) (x : Op4) (hn : Am x.n) : Calls Tryz.prog 15 #[.pointer (some ⟨c, 0, none⟩), x.val] w fun e w' => e = .returned (.int .i64 (S.opE x)) ∧ Cf w0 w' c (S.opS x) := by
  obtain ⟨k, du, dy, n⟩ := x
  unfold Op4.val
  simp only at hn ⊢
  have HT := Lib.hid (fun (W : World) (q : Below w.heap.size w W) => K.tell du dy n (K.up h q) hn)
  have HO := Lib.hid (fun (W : World) (q : Below w.heap.size w W) => K.onward dy n (K.up h q) hn)
  have HA := Lib.hid (fun (W : World) (q : Below w.heap.size w W) => K.afresh dy n (K.up h q) hn)
  by_cases q1 : k = 1
  · rw [show S.opE ⟨k, du, dy, n⟩ = S.onwE dy n by unfold Ct.opE; rw [if_pos q1], show S.opS ⟨k, du, dy, n⟩ = S.onwS dy n by unfold Ct.opS; rw [if_pos q1]]
    subst q1
    generalize S.onwE dy n = X at HO ⊢
    generalize S.onwS dy n = S' at HO ⊢
    clear h hn
    go_enter Tryz.func15, Tryz.ntmps15
    go_wp2_with fail
    refine (HO.out _ (boxed _ _)).mono ?_
    rintro e w1 ⟨rfl, hT⟩
    have kF := Lib.hid hT
    clear hT
    go_wp2_with fail
    go_ret
    exact ⟨rfl, kF.out⟩
  by_cases q2 : k = 2
  · rw [show S.opE ⟨k, du, dy, n⟩ = S.afrE dy n by unfold Ct.opE; rw [if_neg q1, if_pos q2], show S.opS ⟨k, du, dy, n⟩ = S.afrS dy n by unfold Ct.opS; rw [if_neg q1, if_pos q2]]
    subst q2
    generalize S.afrE dy n = X at HA ⊢
    generalize S.afrS dy n = S' at HA ⊢
    clear h hn q1
    go_enter Tryz.func15, Tryz.ntmps15
    go_wp2_with fail
    refine (HA.out _ (boxed _ _)).mono ?_
    rintro e w1 ⟨rfl, hT⟩
    have kF := Lib.hid hT
    clear hT
    go_wp2_with fail
    go_ret
    exact ⟨rfl, kF.out⟩
  · rw [show S.opE ⟨k, du, dy, n⟩ = S.telE du dy n by unfold Ct.opE; rw [if_neg q1, if_neg q2], show S.opS ⟨k, du, dy, n⟩ = S.telS du dy n by unfold Ct.opS; rw [if_neg q1, if_neg q2]]
    generalize S.telE du dy n = X at HT ⊢
    generalize S.telS du dy n = S' at HT ⊢
    clear h hn
    go_enter Tryz.func15, Tryz.ntmps15
    go_wp2_with fail
    refine (HT.out _ (boxed _ _)).mono ?_
    rintro e w1 ⟨rfl, hT⟩
    have kF := Lib.hid hT
    clear hT
    go_wp2_with fail
    go_ret
    exact ⟨rfl, kF.out⟩
end
/-- more than is looked at -/
def bigT (x : Tm) (l : List Op4) : Bool := decide (50 < x.I.length) || decide (30 < x.l.length) || decide (40 < x.m.length) || decide (60 < l.length)
set_option maxRecDepth 100000 in
set_option maxHeartbeats 4000000 in
theorem large16_any (w : World) (x : Tm) (p : TmP) (l : List Op4) (a : Option Addr) (c : Nat) : Calls Tryz.prog 9 #[x.val p, .slice a l.length c] w fun e w' => e = .returned (.bool (bigT x l)) ∧ Below w.heap.size w w' := by
  unfold Tm.val bigT
  generalize x.I.length = ni
  generalize x.l.length = nl
  generalize x.m.length = nm
  generalize l.length = n
  by_cases q1 : 50 < ni
  · have q1' : (50 : Int) < (ni : Int) := by omega
    go_enter Tryz.func9, Tryz.ntmps9
    go_wp2_with fail
    go_ret
    exact ⟨by simp [q1], boxed _ _⟩
  have q1' : ¬ (50 : Int) < (ni : Int) := by omega
  by_cases q2 : 30 < nl
  · have q2' : (30 : Int) < (nl : Int) := by omega
    go_enter Tryz.func9, Tryz.ntmps9
    go_wp2_with fail
    go_ret
    exact ⟨by simp, boxed _ _⟩
  have q2' : ¬ (30 : Int) < (nl : Int) := by omega
  by_cases q3 : 40 < nm
  · have q3' : (40 : Int) < (nm : Int) := by omega
    go_enter Tryz.func9, Tryz.ntmps9
    go_wp2_with fail
    go_ret
    exact ⟨by simp, boxed _ _⟩
  have q3' : ¬ (40 : Int) < (nm : Int) := by omega
  by_cases q4 : 60 < n
  · have q4' : (60 : Int) < (n : Int) := by omega
    go_enter Tryz.func9, Tryz.ntmps9
    go_wp2_with fail
    go_ret
    exact ⟨by simp, boxed _ _⟩
  have q4' : ¬ (60 : Int) < (n : Int) := by omega
  go_enter Tryz.func9, Tryz.ntmps9
  go_wp2_with fail
  go_ret
  exact ⟨by simp, boxed _ _⟩
end Go.Proofs.YtklaonoekmhakaaGreat

namespace Go.Proofs.YtklaonoekmhakaaGreat
open Go.ChangeShapes Go.WideShapes Go.ChangeAt Go.RowKit Go.Deep

theorem own : ownKnob Tryz.prog.godebug = none := by kernel_rfl
theorem laidOut : laidOutB Tryz.prog = true := by kernel_rfl
theorem cInt : Tryz.prog.cellsOf 3 = 1 := by kernel_rfl
theorem cI64 : Tryz.prog.cellsOf 2 = 1 := by kernel_rfl

theorem plain_addr {w : World} {a : Addr} {v : Value} (h : w.cell? (a.add 0) = some v) : ∃ b o, a = ⟨b, o, none⟩ := by
  obtain ⟨b, o, sp⟩ := a
  cases sp with
  | none => exact ⟨b, o, rfl⟩
  | some u =>
    exfalso
    simp only [Addr.add] at h
    unfold World.cell? at h
    split at h <;> simp at h
theorem addr_at (b off : Nat) (k : Nat) : (⟨b, off, none⟩ : Addr).add k = ⟨b, off + k, none⟩ := by
  unfold Addr.add
  split
  · subst k; rfl
  · rfl
/-- rows of things that came in, one behind another -/
theorem list_of {α : Type} {p : Nat → α → Prop} : ∀ n : Nat, (∀ i, i < n → ∃ x, p i x) → ∃ l : List α, l.length = n ∧ ∀ i x, l[i]? = some x → p i x
  | 0, _ => ⟨[], rfl, fun i x h => by simp at h⟩
  | n + 1, h => by
    obtain ⟨l, hl, hp⟩ := list_of n fun i hi => h i (by omega)
    obtain ⟨x, hx⟩ := h n (by omega)
    refine ⟨l ++ [x], by simp [hl], fun i y hy => ?_⟩
    rcases Nat.lt_or_ge i n with r | r
    · rw [List.getElem?_append_left (by omega)] at hy
      exact hp i y hy
    · rw [List.getElem?_append_right (by omega)] at hy
      have : i = n := by
        rcases Nat.eq_or_lt_of_le r with q | q
        · exact q.symm
        · rw [List.getElem?_eq_none (by simp; omega)] at hy; cases hy
      subst this
      rw [hl, Nat.sub_self] at hy
      simp at hy
      subst hy
      exact hx
end Go.Proofs.YtklaonoekmhakaaGreat

namespace Go.Proofs.YtklaonoekmhakaaGreat
open Go.ChangeShapes Go.WideShapes Go.ChangeAt Go.RowKit Go.Deep

theorem cItem : Tryz.prog.cellsOf 72 = 4 := by kernel_rfl
theorem cLine : Tryz.prog.cellsOf 74 = 5 := by kernel_rfl

section
variable {H : Type} {enc : TypeId × Value → H} {W : World} {base : Nat} {spare : Nat → Bool} {held : Bool}
/-- a list of structs that came in -/
theorem rows_read {α : Type} {c : α → List Value} {good : α → Prop} {z : Nat} {T tS : TypeId} (hS : Tryz.prog.underlying tS = some (.slice T)) (hC : Tryz.prog.cellsOf T = z) (hz0 : 0 < z) (hz : ∀ x, (c x).length = z)
    (hr : ∀ (fuel : Nat) (cs : List Value) (y : DataW H × List MemPlace), DataW.trod enc Tryz.prog W base spare held fuel T cs = some y → ∃ x : α, cs = c x ∧ good x)
    {fuel : Nat} {a : Option Addr} {len cap : Nat} {y : DataW H × List MemPlace} (h : DataW.trod enc Tryz.prog W base spare held fuel tS [.slice a len cap] = some y) :
    ∃ l : List α, l.length = len ∧ Rws c z W a l ∧ (∀ x ∈ l, good x) ∧ (a = none → cap = 0) := by
  rcases open_slice hS h with ⟨hcs, _⟩ | ⟨x, l0, c0, m, n, D, Pl, hcs, _, hl, hm, hmm, _, hi⟩
  · simp at hcs
    obtain ⟨rfl, rfl, rfl⟩ := hcs
    exact ⟨[], rfl, .inl rfl, fun x hx => (by cases hx), fun _ => rfl⟩
  · simp at hcs
    obtain ⟨rfl, rfl, rfl⟩ := hcs
    have hlm : len ≤ m := by rw [hmm]; split <;> omega
    rcases Nat.eq_zero_or_pos len with q | q
    · subst q
      exact ⟨[], rfl, .inl rfl, fun x hx => (by cases hx), fun e => (by cases e)⟩
    obtain ⟨b, o, rfl⟩ : ∃ b o, x = ⟨b, o, none⟩ := by
      obtain ⟨cs0, hc0, ht0⟩ := hi 0 (by omega)
      rw [hC] at hc0
      obtain ⟨_, _, hat⟩ := World.cells?_some hc0
      obtain ⟨x0, rfl, _⟩ := hr _ _ _ ht0
      have := hat 0 hz0
      simp only [Nat.zero_mul] at this
      refine plain_addr (w := W) (v := (c x0)[0]'(by rw [hz]; exact hz0)) ?_
      have e : ∀ z : Addr, (z.add 0).add 0 = z.add 0 := fun z => by simp [Addr.add]
      rw [e] at this
      rw [this]; exact List.getElem?_eq_getElem _
    obtain ⟨l, hpl, hp⟩ := list_of (p := fun i (x : α) => (∀ j, j < z → W.cell? ⟨b, o + i * z + j, none⟩ = (c x)[j]?) ∧ good x) len fun i hil => by
      obtain ⟨cs, hc, ht⟩ := hi i (by omega)
      obtain ⟨x, rfl, hx⟩ := hr _ _ _ ht
      rw [hC] at hc
      obtain ⟨_, _, hat⟩ := World.cells?_some hc
      refine ⟨x, fun j hj => ?_, hx⟩
      have := hat j hj
      rwa [addr_at, addr_at] at this
    refine ⟨l, hpl, .inr ⟨b, o, rfl, fun i x hx j v hv => ?_⟩, fun x hx => ?_, fun e => (by cases e)⟩
    · have hj := (List.getElem?_eq_some_iff.1 hv).1
      rw [hz] at hj
      rw [(hp i x hx).1 j hj]; exact hv
    · obtain ⟨i, hi'⟩ := List.mem_iff_getElem?.1 hx
      exact (hp i x hi').2
def imG (x : Im) : Prop := Am x.tag ∧ Am x.grp ∧ Am x.met ∧ Am x.pri
def pcG (x : Pc) : Prop := Am x.it ∧ Am x.dy ∧ Am x.n
def lnG (x : Ln) : Prop := Am x.it ∧ Am x.un ∧ Am x.ch ∧ Am x.fi ∧ Am x.la
set_option maxRecDepth 100000 in
theorem im_read (fuel : Nat) (cs : List Value) (y : DataW H × List MemPlace) (h : DataW.trod enc Tryz.prog W base spare held fuel 72 cs = some y) : ∃ x : Im, cs = x.cells ∧ imG x := by
  obtain ⟨ys, n, _, _, hlen, hyl, hf⟩ := DataW.trod_struct Tryz.underlying72 h
  have h4 : cs.length = 4 := hlen.trans cItem
  match cs, h4 with
  | [c0, c1, c2, c3], _ =>
    match ys, hyl with
    | [y0, y1, y2, y3], _ =>
      have g0 : DataW.trod enc Tryz.prog W base spare held n 3 [c0] = some y0 := by simpa [cInt] using hf 0 _ rfl
      have g1 : DataW.trod enc Tryz.prog W base spare held n 3 [c1] = some y1 := by simpa [cInt] using hf 1 _ rfl
      have g2 : DataW.trod enc Tryz.prog W base spare held n 3 [c2] = some y2 := by simpa [cInt] using hf 2 _ rfl
      have g3 : DataW.trod enc Tryz.prog W base spare held n 2 [c3] = some y3 := by simpa [cI64] using hf 3 _ rfl
      obtain ⟨a, e0, _, w0⟩ := DataW.trod_int Tryz.underlying3 g0
      obtain ⟨b, e1, _, w1⟩ := DataW.trod_int Tryz.underlying3 g1
      obtain ⟨c, e2, _, w2⟩ := DataW.trod_int Tryz.underlying3 g2
      obtain ⟨d, e3, _, w3⟩ := DataW.trod_int Tryz.underlying2 g3
      simp at e0 e1 e2 e3
      subst e0 e1 e2 e3
      exact ⟨⟨a, b, c, d⟩, rfl, bounds_i64 w0, bounds_i64 w1, bounds_i64 w2, bounds_i64 w3⟩
set_option maxRecDepth 100000 in
theorem ln_read (fuel : Nat) (cs : List Value) (y : DataW H × List MemPlace) (h : DataW.trod enc Tryz.prog W base spare held fuel 74 cs = some y) : ∃ x : Ln, cs = x.cells ∧ lnG x := by
  obtain ⟨ys, n, _, _, hlen, hyl, hf⟩ := DataW.trod_struct Tryz.underlying74 h
  have h5 : cs.length = 5 := hlen.trans cLine
  match cs, h5 with
  | [c0, c1, c2, c3, c4], _ =>
    match ys, hyl with
    | [y0, y1, y2, y3, y4], _ =>
      have g0 : DataW.trod enc Tryz.prog W base spare held n 3 [c0] = some y0 := by simpa [cInt] using hf 0 _ rfl
      have g1 : DataW.trod enc Tryz.prog W base spare held n 2 [c1] = some y1 := by simpa [cI64] using hf 1 _ rfl
      have g2 : DataW.trod enc Tryz.prog W base spare held n 2 [c2] = some y2 := by simpa [cI64] using hf 2 _ rfl
      have g3 : DataW.trod enc Tryz.prog W base spare held n 3 [c3] = some y3 := by simpa [cInt] using hf 3 _ rfl
      have g4 : DataW.trod enc Tryz.prog W base spare held n 3 [c4] = some y4 := by simpa [cInt] using hf 4 _ rfl
      obtain ⟨a, e0, _, w0⟩ := DataW.trod_int Tryz.underlying3 g0
      obtain ⟨b, e1, _, w1⟩ := DataW.trod_int Tryz.underlying2 g1
      obtain ⟨c, e2, _, w2⟩ := DataW.trod_int Tryz.underlying2 g2
      obtain ⟨d, e3, _, w3⟩ := DataW.trod_int Tryz.underlying3 g3
      obtain ⟨f, e4, _, w4⟩ := DataW.trod_int Tryz.underlying3 g4
      simp at e0 e1 e2 e3 e4
      subst e0 e1 e2 e3 e4
      exact ⟨⟨a, b, c, d, f⟩, rfl, bounds_i64 w0, bounds_i64 w1, bounds_i64 w2, bounds_i64 w3, bounds_i64 w4⟩
theorem ims_read {fuel : Nat} {a : Option Addr} {len cap : Nat} {y : DataW H × List MemPlace} (h : DataW.trod enc Tryz.prog W base spare held fuel 22 [.slice a len cap] = some y) :
    ∃ l : List Im, l.length = len ∧ ItA W a l ∧ (∀ x ∈ l, imG x) ∧ (a = none → cap = 0) := rows_read Tryz.underlying22 cItem (by decide) im_len im_read h
theorem lns_read {fuel : Nat} {a : Option Addr} {len cap : Nat} {y : DataW H × List MemPlace} (h : DataW.trod enc Tryz.prog W base spare held fuel 23 [.slice a len cap] = some y) :
    ∃ l : List Ln, l.length = len ∧ LnA W a l ∧ (∀ x ∈ l, lnG x) ∧ (a = none → cap = 0) := rows_read Tryz.underlying23 cLine (by decide) (fun _ => rfl) ln_read h
end
end Go.Proofs.YtklaonoekmhakaaGreat
