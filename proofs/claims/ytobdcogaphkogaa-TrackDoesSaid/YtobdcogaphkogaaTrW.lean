/- Arguments of the statements on what is done: what is read of them. -/
import Derived.ProofKit
import Derived.OpenShut
import Derived.ShutString
import Derived.ChangeOld
import Derived.ChangeSlices
import Derived.SizedLaws
import Derived.Deep.Slices
import Derived.Deep.Fields
import Derived.Test.YtobdcogaphkogaaDnMem
import Derived.Test.YtobdcogaphkogaaBoW
import Derived.Test.YtobdcogaphkogaaTrG
namespace Go.Proofs.Ytobdcogaphkogaa
open Go.ChangeShapes Go.WideShapes Go.ChangeAt Go.RowKit Go.Deep

theorem cDuty : Try.prog.cellsOf 24 = 6 := by kernel_rfl
theorem cInts : Try.prog.cellsOf 22 = 1 := by kernel_rfl
section
variable {H : Type} {enc : TypeId × Value → H} {W : World} {base : Nat} {spare : Nat → Bool} {held : Bool}
/-- a list of numbers that came in, and what it weighs -/
theorem inl_read {fuel : Nat} {cs : List Value} {y : DataW H × List MemPlace} (h : DataW.trod enc Try.prog W base spare held fuel 22 cs = some y) :
    ∃ (a : Option Addr) (l : List Int) (cap : Nat), cs = [.slice a l.length cap] ∧ InA W a l ∧ (a = none → cap = 0) ∧ (l = [] ∨ ∃ sp : List (DataW H), ∃ el : List (DataW H), y.1 = .slice el sp ∧ el.length = l.length) := by
  rcases open_ints Try.underlying22 Try.underlying3 cInt h with ⟨hcs, _⟩ | ⟨x, len, c0, zs, hcs, _, hl, _, hz, hx, hcell, hw⟩
  · exact ⟨none, [], 0, hcs, .inl rfl, fun _ => rfl, .inl rfl⟩
  · have hlm : len ≤ zs.length := by rw [hz]; split <;> omega
    have hll : (zs.take len).length = len := by rw [List.length_take]; omega
    refine ⟨some x, zs.take len, c0, by rw [hll]; exact hcs, ?_, fun e => (by cases e), .inr ⟨lits .i64 (zs.drop len), lits .i64 (zs.take len), by rw [hx], by simp [lits]⟩⟩
    rcases Nat.eq_zero_or_pos len with q | q
    · subst q; exact .inl (by simp)
    · obtain ⟨b, o, rfl⟩ := plain_addr (hcell 0 (by omega))
      refine .inr ⟨b, o, rfl, fun j z hj k v hv => ?_⟩
      have hk := (List.getElem?_eq_some_iff.1 hv).1
      obtain rfl : k = 0 := by simp [inC] at hk; omega
      obtain rfl : Value.int .i64 z = v := by simpa [inC] using hv
      have hjl : j < len := by
        rcases Nat.lt_or_ge j len with r | r
        · exact r
        · rw [List.getElem?_eq_none (by rw [hll]; exact r)] at hj; cases hj
      have := hcell j (by omega)
      rw [addr_at] at this
      rw [Nat.mul_one, Nat.add_zero, this, List.getD_eq_getElem?_getD]
      rw [List.getElem?_take, if_pos hjl] at hj
      rw [hj]; rfl
def tlG (x : Tl) : Prop := Am x.1 ∧ Am x.2
structure DtG (d : Dt) : Prop where
  al : Am d.al
  un : Am d.un
  me : Am d.me
  fi : Am d.fi
  la : Am d.la
set_option maxRecDepth 100000 in
/-- an obligation that came in -/
theorem dt_read {fuel : Nat} {cs : List Value} {y : DataW H × List MemPlace} (h : DataW.trod enc Try.prog W base spare held fuel 24 cs = some y) :
    ∃ (d : Dt) (a : Option Addr) (c : Nat), cs = [.slice a d.ls.length c, .int .i64 d.al, .int .i64 d.un, .int .i64 d.me, .int .i64 d.fi, .int .i64 d.la] ∧ InA W a d.ls ∧ (a = none → c = 0) ∧ DtG d ∧ (d.ls = [] ∨ ∃ sp el : List (DataW H), ∃ r : List (DataW H), y.1 = .agg (.slice el sp :: r) ∧ el.length = d.ls.length) := by
  obtain ⟨ys, n, _, hy, hlen, hyl, hf⟩ := DataW.trod_struct Try.underlying24 h
  have h6 : cs.length = 6 := hlen.trans cDuty
  match cs, h6 with
  | [c0, c1, c2, c3, c4, c5], _ =>
    match ys, hyl with
    | [y0, y1, y2, y3, y4, y5], _ =>
      have g0 : DataW.trod enc Try.prog W base spare held n 22 [c0] = some y0 := by simpa [cInts] using hf 0 _ rfl
      have g1 : DataW.trod enc Try.prog W base spare held n 2 [c1] = some y1 := by simpa [cI64] using hf 1 _ rfl
      have g2 : DataW.trod enc Try.prog W base spare held n 2 [c2] = some y2 := by simpa [cI64] using hf 2 _ rfl
      have g3 : DataW.trod enc Try.prog W base spare held n 3 [c3] = some y3 := by simpa [cInt] using hf 3 _ rfl
      have g4 : DataW.trod enc Try.prog W base spare held n 3 [c4] = some y4 := by simpa [cInt] using hf 4 _ rfl
      have g5 : DataW.trod enc Try.prog W base spare held n 3 [c5] = some y5 := by simpa [cInt] using hf 5 _ rfl
      obtain ⟨a, l, c, e0, hI, hc, hw0⟩ := inl_read g0
      obtain ⟨x1, e1, _, w1⟩ := DataW.trod_int Try.underlying2 g1
      obtain ⟨x2, e2, _, w2⟩ := DataW.trod_int Try.underlying2 g2
      obtain ⟨x3, e3, _, w3⟩ := DataW.trod_int Try.underlying3 g3
      obtain ⟨x4, e4, _, w4⟩ := DataW.trod_int Try.underlying3 g4
      obtain ⟨x5, e5, _, w5⟩ := DataW.trod_int Try.underlying3 g5
      simp at e0 e1 e2 e3 e4 e5
      subst e0 e1 e2 e3 e4 e5
      refine ⟨⟨l, x1, x2, x3, x4, x5⟩, a, c, rfl, hI, hc, ⟨bounds_i64 w1, bounds_i64 w2, bounds_i64 w3, bounds_i64 w4, bounds_i64 w5⟩, ?_⟩
      rcases hw0 with e | ⟨sp, el, e, hl⟩
      · exact .inl e
      · refine .inr ⟨sp, el, [y1.1, y2.1, y3.1, y4.1, y5.1], ?_, hl⟩
        rw [hy, ← e]; rfl
/-- .. how many lines it may have -/
theorem dt_sized {ts : List TypeId} {ds : List (DataW H)} (h : (DataW.weightsEach Try.prog ts ds).all (· ≤ reachBytes) = true) {j : Nat} (ht : ts[j]? = some 24) {sp el r : List (DataW H)} (hd : ds[j]? = some (.agg (.slice el sp :: r))) : el.length ≤ 17592186044416 := by
  have hr := reachBytes_lt
  have b8 : Try.prog.bytesOf 3 = 8 := by kernel_rfl
  obtain ⟨fs, hfs, hf0⟩ : ∃ fs : Array Field, Try.prog.underlying 24 = some (.struct fs) ∧ (fs.toList.map (·.type))[0]? = some 22 := ⟨_, Try.underlying24, rfl⟩
  have hm : (el.length + sp.length) * 8 ∈ DataW.weightsEach Try.prog ts ds := by
    refine DataW.weights_mem_each ht hd _ ?_
    simp only [DataW.weights, hfs]
    refine DataW.weights_mem_each (j := 0) hf0 rfl _ ?_
    simp only [DataW.weights, Try.underlying22]
    rw [b8]
    exact List.mem_cons_self ..
  have := List.all_eq_true.1 h _ hm
  simp at this
  omega
end
end Go.Proofs.Ytobdcogaphkogaa

namespace Go.Proofs.Ytobdcogaphkogaa
open Go.ChangeShapes Go.WideShapes Go.ChangeAt Go.RowKit Go.Deep

theorem cOp15 : Try.prog.cellsOf 35 = 3 := by kernel_rfl
def o3G (x : Op3) : Prop := Am x.k ∧ Am x.dy ∧ Am x.n
section
variable {H : Type} {enc : TypeId × Value → H} {W : World} {base : Nat} {spare : Nat → Bool} {held : Bool}
set_option maxRecDepth 100000 in
theorem o3_read (fuel : Nat) (cs : List Value) (y : DataW H × List MemPlace) (h : DataW.trod enc Try.prog W base spare held fuel 35 cs = some y) : ∃ x : Op3, cs = o3C x ∧ o3G x := by
  obtain ⟨ys, n, _, _, hlen, hyl, hf⟩ := DataW.trod_struct Try.underlying35 h
  have h2 : cs.length = 3 := hlen.trans cOp15
  match cs, h2 with
  | [c0, c1, c2], _ =>
    match ys, hyl with
    | [y0, y1, y2], _ =>
      have g0 : DataW.trod enc Try.prog W base spare held n 3 [c0] = some y0 := by simpa [cInt] using hf 0 _ rfl
      have g1 : DataW.trod enc Try.prog W base spare held n 3 [c1] = some y1 := by simpa [cInt] using hf 1 _ rfl
      have g2 : DataW.trod enc Try.prog W base spare held n 2 [c2] = some y2 := by simpa [cI64] using hf 2 _ rfl
      obtain ⟨a, e0, _, w0⟩ := DataW.trod_int Try.underlying3 g0
      obtain ⟨b, e1, _, w1⟩ := DataW.trod_int Try.underlying3 g1
      obtain ⟨c, e2, _, w2⟩ := DataW.trod_int Try.underlying2 g2
      simp at e0 e1 e2
      subst e0 e1 e2
      exact ⟨⟨a, b, c⟩, rfl, bounds_i64 w0, bounds_i64 w1, bounds_i64 w2⟩
theorem o3s_read {fuel : Nat} {a : Option Addr} {len cap : Nat} {y : DataW H × List MemPlace} (h : DataW.trod enc Try.prog W base spare held fuel 25 [.slice a len cap] = some y) :
    ∃ l : List Op3, l.length = len ∧ O3A W a l ∧ (∀ x ∈ l, o3G x) ∧ (a = none → cap = 0) := rows_read Try.underlying25 cOp15 (by decide) o3_len o3_read h
end
end Go.Proofs.Ytobdcogaphkogaa
