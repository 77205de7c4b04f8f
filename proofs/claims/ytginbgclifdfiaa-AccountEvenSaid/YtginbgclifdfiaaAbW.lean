/- Arguments of the account's statements: what is read of them. -/
import Derived.Test.YtginbgclifdfiaaAcZ
import Derived.ProofKit
import Derived.OpenShut
import Derived.ShutString
import Derived.ChangeOld
import Derived.ChangeSlices
import Derived.SizedLaws
import Derived.Deep.Slices
import Derived.Deep.Fields
namespace Go.Proofs.Ytginbgclifdfiaa
open Go.ChangeShapes Go.WideShapes Go.ChangeAt Go.RowKit Go.Deep

theorem own : ownKnob Try.prog.godebug = none := by kernel_rfl
theorem laidOut : laidOutB Try.prog = true := by kernel_rfl
theorem cInt : Try.prog.cellsOf 3 = 1 := by kernel_rfl
theorem cI64 : Try.prog.cellsOf 2 = 1 := by kernel_rfl
theorem cPost : Try.prog.cellsOf 48 = 3 := by kernel_rfl
theorem cPosts : Try.prog.cellsOf 32 = 1 := by kernel_rfl
theorem cOp9 : Try.prog.cellsOf 34 = 4 := by kernel_rfl

section
variable {H : Type} {enc : TypeId × Value → H} {W : World} {base : Nat} {spare : Nat → Bool} {held : Bool}
theorem plain_addr {w : World} {a : Addr} {v : Value} (h : w.cell? (a.add 0) = some v) : ∃ b o, a = ⟨b, o, none⟩ := by
  obtain ⟨b, o, sp⟩ := a
  cases sp with
  | none => exact ⟨b, o, rfl⟩
  | some u =>
    exfalso
    simp only [Addr.add] at h
    unfold World.cell? at h
    split at h <;> simp at h
theorem addr_at (b off : Nat) (k : Nat) : (⟨b, off, none⟩ : Addr).add k = ⟨b, off + k, none⟩ := by
  unfold Addr.add
  split
  · subst k; rfl
  · rfl
/-- rows of things that came in, one behind another -/
theorem list_of {α : Type} {p : Nat → α → Prop} : ∀ n : Nat, (∀ i, i < n → ∃ x, p i x) → ∃ l : List α, l.length = n ∧ ∀ i x, l[i]? = some x → p i x
  | 0, _ => ⟨[], rfl, fun i x h => by simp at h⟩
  | n + 1, h => by
    obtain ⟨l, hl, hp⟩ := list_of n fun i hi => h i (by omega)
    obtain ⟨x, hx⟩ := h n (by omega)
    refine ⟨l ++ [x], by simp [hl], fun i y hy => ?_⟩
    rcases Nat.lt_or_ge i n with r | r
    · rw [List.getElem?_append_left (by omega)] at hy
      exact hp i y hy
    · rw [List.getElem?_append_right (by omega)] at hy
      have : i = n := by
        rcases Nat.eq_or_lt_of_le r with q | q
        · exact q.symm
        · rw [List.getElem?_eq_none (by simp; omega)] at hy; cases hy
      subst this
      rw [hl, Nat.sub_self] at hy
      simp at hy
      subst hy
      exact hx
set_option maxRecDepth 100000 in
/-- a posting that came in -/
theorem post_read {fuel : Nat} {cs : List Value} {y : DataW H × List MemPlace} (h : DataW.trod enc Try.prog W base spare held fuel 48 cs = some y) :
    ∃ x : Po, cs = x.cells ∧ Am x.a ∧ Am x.c ∧ Am x.m := by
  obtain ⟨ys, n, _, _, hlen, hyl, hf⟩ := DataW.trod_struct Try.underlying48 h
  have h3 : cs.length = 3 := hlen.trans cPost
  match cs, h3 with
  | [c0, c1, c2], _ =>
    match ys, hyl with
    | [y0, y1, y2], _ =>
      have g0 : DataW.trod enc Try.prog W base spare held n 3 [c0] = some y0 := by simpa [cInt] using hf 0 _ rfl
      have g1 : DataW.trod enc Try.prog W base spare held n 3 [c1] = some y1 := by simpa [cInt] using hf 1 _ rfl
      have g2 : DataW.trod enc Try.prog W base spare held n 2 [c2] = some y2 := by simpa [cI64] using hf 2 _ rfl
      obtain ⟨a, e0, _, w0⟩ := DataW.trod_int Try.underlying3 g0
      obtain ⟨b, e1, _, w1⟩ := DataW.trod_int Try.underlying3 g1
      obtain ⟨c, e2, _, w2⟩ := DataW.trod_int Try.underlying2 g2
      simp at e0 e1 e2
      subst e0 e1 e2
      exact ⟨⟨a, b, c⟩, rfl, bounds_i64 w0, bounds_i64 w1, bounds_i64 w2⟩
set_option maxRecDepth 100000 in
/-- postings that came in -/
theorem posts_read {fuel : Nat} {cs : List Value} {y : DataW H × List MemPlace} (h : DataW.trod enc Try.prog W base spare held fuel 32 cs = some y) :
    ∃ (a : Option Addr) (ps : List Po) (cap : Nat), cs = [.slice a ps.length cap] ∧ PsA W a ps ∧ Ams ps := by
  rcases open_slice Try.underlying32 h with ⟨hcs, _⟩ | ⟨x, len, c, m, n, D, Pl, hcs, _, hl, hm, hmm, _, hi⟩
  · exact ⟨none, [], 0, hcs, .inl rfl, fun x hx => by cases hx⟩
  · have hlm : len ≤ m := by rw [hmm]; split <;> omega
    rcases Nat.eq_zero_or_pos len with q | q
    · subst q
      exact ⟨some x, [], c, hcs, .inl rfl, fun x hx => by cases hx⟩
    obtain ⟨b, o, rfl⟩ : ∃ b o, x = ⟨b, o, none⟩ := by
      obtain ⟨cs0, hc0, ht0⟩ := hi 0 (by omega)
      rw [cPost] at hc0
      obtain ⟨_, _, hat⟩ := World.cells?_some hc0
      obtain ⟨x0, rfl, _⟩ := post_read ht0
      have := hat 0 (by omega)
      simp only [Nat.zero_mul] at this
      refine plain_addr (w := W) (v := .int .i64 x0.a) ?_
      have e : ∀ z : Addr, (z.add 0).add 0 = z.add 0 := fun z => by simp [Addr.add]
      rw [e] at this
      exact this
    obtain ⟨ps, hpl, hp⟩ := list_of (p := fun i (z : Po) => (∀ j, j < 3 → W.cell? ⟨b, o + i * 3 + j, none⟩ = z.cells[j]?) ∧ Am z.a ∧ Am z.c ∧ Am z.m) len fun i hil => by
      obtain ⟨cs, hc, ht⟩ := hi i (by omega)
      obtain ⟨z, rfl, hz⟩ := post_read ht
      rw [cPost] at hc
      obtain ⟨_, _, hat⟩ := World.cells?_some hc
      refine ⟨z, fun j hj => ?_, hz⟩
      have := hat j hj
      rwa [addr_at, addr_at] at this
    refine ⟨_, ps, c, by rw [hcs, hpl], .inr ⟨b, o, rfl, fun i z hz => ⟨(hp i z hz).1 0 (by omega), (hp i z hz).1 1 (by omega), (hp i z hz).1 2 (by omega)⟩⟩, fun z hz => ?_⟩
    obtain ⟨i, hi'⟩ := List.mem_iff_getElem?.1 hz
    exact (hp i z hi').2
set_option maxRecDepth 100000 in
/-- an operation that came in -/
theorem opq_read {fuel : Nat} {cs : List Value} {y : DataW H × List MemPlace} (h : DataW.trod enc Try.prog W base spare held fuel 34 cs = some y) :
    ∃ x : Oq, cs = x.cells.toList ∧ OpA W x := by
  obtain ⟨ys, n, _, _, hlen, hyl, hf⟩ := DataW.trod_struct Try.underlying34 h
  have h4 : cs.length = 4 := hlen.trans cOp9
  match cs, h4 with
  | [c0, c1, c2, c3], _ =>
    match ys, hyl with
    | [y0, y1, y2, y3], _ =>
      have g0 : DataW.trod enc Try.prog W base spare held n 3 [c0] = some y0 := by simpa [cInt] using hf 0 _ rfl
      have g1 : DataW.trod enc Try.prog W base spare held n 3 [c1] = some y1 := by simpa [cInt] using hf 1 _ rfl
      have g2 : DataW.trod enc Try.prog W base spare held n 3 [c2] = some y2 := by simpa [cInt] using hf 2 _ rfl
      have g3 : DataW.trod enc Try.prog W base spare held n 32 [c3] = some y3 := by simpa [cPosts] using hf 3 _ rfl
      obtain ⟨d, e0, _, _⟩ := DataW.trod_int Try.underlying3 g0
      obtain ⟨q, e1, _, _⟩ := DataW.trod_int Try.underlying3 g1
      obtain ⟨i, e2, _, _⟩ := DataW.trod_int Try.underlying3 g2
      obtain ⟨a, ps, cap, e3, hp, hm⟩ := posts_read g3
      simp at e0 e1 e2 e3
      subst e0 e1 e2 e3
      exact ⟨⟨d, q, i, a, cap, ps⟩, rfl, hp, hm⟩
set_option maxRecDepth 100000 in
/-- a list of operations that came in -/
theorem opqs_read {fuel : Nat} {a : Option Addr} {len cap : Nat} {y : DataW H × List MemPlace} (h : DataW.trod enc Try.prog W base spare held fuel 22 [.slice a len cap] = some y) :
    ∃ l : List Oq, l.length = len ∧ OpsA W a l ∧ (a = none → cap = 0) ∧ ((l = [] ∧ y.1 = .nil) ∨ ∃ el sp, el.length = l.length ∧ y.1 = .slice el sp) := by
  rcases open_slice Try.underlying22 h with ⟨hcs, hy⟩ | ⟨x, l0, c, m, n, D, Pl, hcs, _, hl, hm, hmm, hy, hi⟩
  · simp at hcs
    obtain ⟨rfl, rfl, rfl⟩ := hcs
    exact ⟨[], rfl, ⟨fun x hx => (by cases hx), .inl rfl⟩, fun _ => rfl, .inl ⟨rfl, by rw [hy]⟩⟩
  · simp at hcs
    obtain ⟨rfl, rfl, rfl⟩ := hcs
    have hlm : len ≤ m := by rw [hmm]; split <;> omega
    rcases Nat.eq_zero_or_pos len with q | q
    · subst q
      exact ⟨[], rfl, ⟨fun x hx => (by cases hx), .inl rfl⟩, fun e => (by cases e), .inr ⟨(List.range 0).map D, _, by simp, (by rw [hy])⟩⟩
    obtain ⟨b, o, rfl⟩ : ∃ b o, x = ⟨b, o, none⟩ := by
      obtain ⟨cs0, hc0, ht0⟩ := hi 0 (by omega)
      rw [cOp9] at hc0
      obtain ⟨_, _, hat⟩ := World.cells?_some hc0
      obtain ⟨x0, rfl, _⟩ := opq_read ht0
      have := hat 0 (by omega)
      simp only [Nat.zero_mul] at this
      refine plain_addr (w := W) (v := .int .i64 x0.d) ?_
      have e : ∀ z : Addr, (z.add 0).add 0 = z.add 0 := fun z => by simp [Addr.add]
      rw [e] at this
      exact this
    obtain ⟨l, hpl, hp⟩ := list_of (p := fun i (z : Oq) => (∀ j, j < 4 → W.cell? ⟨b, o + i * 4 + j, none⟩ = z.cells.toList[j]?) ∧ OpA W z) len fun i hil => by
      obtain ⟨cs, hc, ht⟩ := hi i (by omega)
      obtain ⟨z, rfl, hz⟩ := opq_read ht
      rw [cOp9] at hc
      obtain ⟨_, _, hat⟩ := World.cells?_some hc
      refine ⟨z, fun j hj => ?_, hz⟩
      have := hat j hj
      rwa [addr_at, addr_at] at this
    have hO : OpsA W (some ⟨b, o, none⟩) l := ⟨fun z hz => by
      obtain ⟨i, hi'⟩ := List.mem_iff_getElem?.1 hz
      exact (hp i z hi').2, .inr ⟨b, o, rfl, fun i z hz => ⟨(hp i z hz).1 0 (by omega), (hp i z hz).1 1 (by omega), (hp i z hz).1 2 (by omega), (hp i z hz).1 3 (by omega)⟩⟩⟩
    exact ⟨l, hpl, hO, fun e => (by cases e), .inr ⟨(List.range len).map D, _, (by rw [List.length_map, List.length_range, hpl]), (by rw [hy])⟩⟩
theorem opqs_sized {ts : List TypeId} {ds : List (DataW H)} (h : (DataW.weightsEach Try.prog ts ds).all (· ≤ reachBytes) = true) {j : Nat} (ht : ts[j]? = some 22) {el sp : List (DataW H)} (hd : ds[j]? = some (.slice el sp)) :
    el.length ≤ 2932031007400 := by
  have hr : reachBytes = 140737488351232 := rfl
  have b9 : Try.prog.bytesOf 34 = 48 := by kernel_rfl
  have := sized_slice h ht hd Try.underlying22
  rw [b9] at this
  clear b9
  omega
end
end Go.Proofs.Ytginbgclifdfiaa
