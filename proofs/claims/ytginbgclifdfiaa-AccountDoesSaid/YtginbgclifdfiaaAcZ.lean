/- Operations: do, large. -/
import Derived.Test.YtginbgclifdfiaaAcY
namespace Go.Proofs.Ytginbgclifdfiaa
open Go.RowKit

/-- an operation -/
structure Oq where
  d : Int
  q : Int
  i : Int
  a : Option Addr
  cap : Nat
  ps : List Po
def Oq.v (x : Oq) : Value := .slice x.a x.ps.length x.cap
def Oq.cells (x : Oq) : Array Value := #[.int .i64 x.d, .int .i64 x.q, .int .i64 x.i, x.v]
def OpA (w : World) (x : Oq) : Prop := PsA w x.a x.ps ∧ Ams x.ps
def OpsA (w : World) (a : Option Addr) (l : List Oq) : Prop :=
  (∀ x ∈ l, OpA w x) ∧ (l = [] ∨ ∃ b o, a = some ⟨b, o, none⟩ ∧ ∀ i x, l[i]? = some x →
    w.cell? ⟨b, o + i * 4, none⟩ = some (.int .i64 x.d) ∧ w.cell? ⟨b, o + i * 4 + 1, none⟩ = some (.int .i64 x.q) ∧ w.cell? ⟨b, o + i * 4 + 2, none⟩ = some (.int .i64 x.i) ∧ w.cell? ⟨b, o + i * 4 + 3, none⟩ = some x.v)
def opE (S : Ld) (x : Oq) : Int := if x.d = 0 then postE S x.q x.ps else if x.d = 1 then revE S x.i x.q else cloE S x.q
def opN (S : Ld) (x : Oq) : Int := if x.d = 0 then postN S x.q x.ps else if x.d = 1 then revN S x.i x.q else 0
def opS (S : Ld) (x : Oq) : Ld := if x.d = 0 then postS S x.q x.ps else if x.d = 1 then revS S x.i x.q else cloS S x.q
section
variable {w w' : World} {p m : Nat} {S : Ld} {O : Nat → Prop}
theorem OpA.up {x : Oq} (h : OpA w x) (q : Below w.heap.size w w') : OpA w' x := ⟨h.1.up q, h.2⟩
theorem OpsA.up {a : Option Addr} {l : List Oq} (h : OpsA w a l) (q : Below w.heap.size w w') : OpsA w' a l := by
  refine ⟨fun x hx => (h.1 x hx).up q, ?_⟩
  rcases h.2 with h | ⟨b, o, e, h⟩
  · exact .inl h
  · exact .inr ⟨b, o, e, fun i x hx => ⟨kcell q (h i x hx).1, kcell q (h i x hx).2.1, kcell q (h i x hx).2.2.1, kcell q (h i x hx).2.2.2⟩⟩
/-- what lies in a world is not among blocks that came later -/
theorem PsA.old {a : Option Addr} {ps : List Po} (h : PsA w a ps) (hO : ∀ b, O b → w.heap.size ≤ b) : PsO O a ps := by
  intro hne ad e hb
  rcases h with h | ⟨b, o, e', h⟩
  · exact hne h
  · rw [e] at e'
    obtain rfl : ad = ⟨b, o, none⟩ := Option.some.inj e'
    cases ps with
    | nil => exact hne rfl
    | cons x l =>
      have := World.block_lt_of_cell? (a := ⟨b, o + 0 * 3, none⟩) _ (h 0 x rfl).1
      have := hO _ hb
      simp at *
      omega
def DoR (w : World) (p : Nat) (S : Ld) (O : Nat → Prop) (x : Oq) (e : Ending) (w' : World) : Prop := e = .returned (.tuple #[.int .i64 (opN S x), .int .i64 (opE S x)]) ∧ LgR w p O (opS S x) w'
set_option maxRecDepth 100000 in
set_option maxHeartbeats 4000000 in
theorem do_any9 (x : Oq) (h : Lg w p S O) (hx : OpA w x) (hO : PsO O x.a x.ps) : Calls Try.prog 11 #[.pointer (some ⟨p, 0, none⟩), .agg x.cells] w (DoR w p S O x) := by
  obtain ⟨d, q, i, a, cap, ps⟩ := x
  have HL := Lib.hid h
  obtain ⟨W1, hW1⟩ : ∃ W1, W1 = w.alloc (.cells #[.int .i64 d, .int .i64 q, .int .i64 i, .slice a ps.length cap] 34) := ⟨_, rfl⟩
  have hb1 : Below w.heap.size w W1 := by rw [hW1]; exact boxed _ _
  have hX : Has W1 w.heap.size 34 #[.int .i64 d, .int .i64 q, .int .i64 i, .slice a ps.length cap] := by rw [hW1]; exact Has.fresh _ _ _
  have x0 : W1.cell? ⟨w.heap.size, 0, none⟩ = some (.int .i64 d) := hX.cell 0
  have x1 : W1.cell? ⟨w.heap.size, 1, none⟩ = some (.int .i64 q) := hX.cell 1
  have x2 : W1.cell? ⟨w.heap.size, 2, none⟩ = some (.int .i64 i) := hX.cell 2
  have x3 : W1.cell? ⟨w.heap.size, 3, none⟩ = some (.slice a ps.length cap) := hX.cell 3
  have HPost := Lib.hid (post_any q a ps.length cap ps (h.up hb1) (hx.1.up hb1) rfl hx.2 hO)
  have HRev := Lib.hid (reverse_any i q (h.up hb1))
  have HClo := Lib.hid (close_any q (h.up hb1))
  have HB1 := Lib.hid hb1
  have HW1 := Lib.hid hW1
  unfold DoR opN opE opS Oq.cells Oq.v
  simp only
  clear h hx hO hb1 hX hW1
  by_cases h0 : d = 0
  · rw [if_pos h0, if_pos h0, if_pos h0]
    have hd : (d == 0) = true := by rw [h0]; rfl
    clear h0
    go_enter Try.func11, Try.ntmps11
    go_wp2_with fail
    rw [← HW1.out]
    refine HPost.out.mono ?_
    rintro e w2 ⟨rfl, hr⟩
    have HR := Lib.hid hr
    clear hr x0 x1 x2 x3
    go_wp2_with fail
    go_ret2
    exact ⟨rfl, LgR.pre HL.out HB1.out HR.out⟩
  · rw [if_neg h0, if_neg h0, if_neg h0]
    have hd : (d == 0) = false := by simpa using h0
    by_cases h1 : d = 1
    · rw [if_pos h1, if_pos h1, if_pos h1]
      have hd1 : (d == 1) = true := by rw [h1]; rfl
      clear h0 h1
      go_enter Try.func11, Try.ntmps11
      go_wp2_with fail
      rw [← HW1.out]
      refine HRev.out.mono ?_
      rintro e w2 ⟨rfl, hr⟩
      have HR := Lib.hid hr
      clear hr x0 x1 x2 x3
      go_wp2_with fail
      go_ret2
      exact ⟨rfl, LgR.pre HL.out HB1.out HR.out⟩
    · rw [if_neg h1, if_neg h1, if_neg h1]
      have hd1 : (d == 1) = false := by simpa using h1
      clear h0 h1
      go_enter Try.func11, Try.ntmps11
      go_wp2_with fail
      rw [← HW1.out]
      refine HClo.out.mono ?_
      rintro e w2 ⟨rfl, hr⟩
      have HR := Lib.hid hr
      clear hr x0 x1 x2 x3
      go_wp2_with fail
      go_ret2
      exact ⟨rfl, LgR.pre HL.out HB1.out HR.out⟩

def largeB (n : Int) (l : List Oq) : Bool := (l.any fun x => decide (40 < x.ps.length)) || decide (24 < l.length) || (decide (12 < n) && decide (n ≤ 240))
set_option maxRecDepth 100000 in
set_option maxHeartbeats 4000000 in
theorem large_any9 (n : Int) (a : Option Addr) (cap : Nat) (l : List Oq) (h : OpsA w a l) (hm : l.length ≤ 1000000000000000) : Calls Try.prog 8 #[.int .i64 n, .slice a l.length cap] w fun e w' => e = .returned (.bool (largeB n l)) ∧ w = w' := by
  have HC : Hid (∀ (k : Nat) (x : Oq), l[k]? = some x → ∃ b o, a = some ⟨b, o, none⟩ ∧ w.cell? ⟨b, o + k * 4 + 3, none⟩ = some (.slice x.a x.ps.length x.cap)) := fun k x hx => by
    rcases h.2 with h | ⟨b, o, e, h⟩
    · rw [h] at hx; simp at hx
    · exact ⟨b, o, e, (h k x hx).2.2.2⟩
  clear h
  go_enter Try.func8, Try.ntmps8
  go_wp2_with fail
  go_loopw [5, 8] (fun _ i wr => ∃ k : Nat, k ≤ l.length ∧ i = .int .i64 (k : Int) ∧ wr = w ∧ (l.take k).any (fun x => decide (40 < x.ps.length)) = false) (fun _ i _ => l.length - (intOf i).toNat)
  case atStart => exact ⟨0, Nat.zero_le _, rfl, rfl, by simp⟩
  case round =>
    obtain ⟨k, hk, rfl, rfl, ha⟩ := hrel
    have HA := Lib.hid ha
    clear ha
    by_cases hlt : k < l.length
    · obtain ⟨x, hx⟩ : ∃ x, l[k]? = some x := ⟨l[k], List.getElem?_eq_getElem hlt⟩
      obtain ⟨b, o, rfl, c3⟩ := HC.out k x hx
      have HX := Lib.hid hx
      have i1 : (0 : Int) ≤ (k : Int) := by omega
      have i2 : (k : Int) < (l.length : Int) := by omega
      have i3 : ((k : Int)).toNat = k := by omega
      clear hx
      by_cases hp : 40 < x.ps.length
      · have hb : largeB n l = true := by
          unfold largeB
          have : l.any (fun x => decide (40 < x.ps.length)) = true := List.any_eq_true.2 ⟨x, List.mem_of_getElem? HX.out, by simpa using hp⟩
          rw [this]; rfl
        have hp' : (40 : Int) < (x.ps.length : Int) := by omega
        have HBb := Lib.hid hb
        clear hb hp
        go_wp2_with fail
        go_ret
        exact ⟨by rw [HBb.out]; rfl, rfl⟩
      · have hp' : ¬ ((40 : Int) < (x.ps.length : Int)) := by omega
        have HP := Lib.hid hp
        clear hp
        go_wp2_with fail
        go_roundw
        case rel =>
          refine ⟨k + 1, by omega, by go_num, by first | rfl | trivial, ?_⟩
          rw [List.take_add_one, HX.out, List.any_append, HA.out]
          simpa using HP.out
        case measure => simp [intOf]; omega
    · obtain rfl : k = l.length := by omega
      have ha := HA.out
      rw [List.take_length] at ha
      have hb : largeB n l = (decide (24 < l.length) || (decide (12 < n) && decide (n ≤ 240))) := by unfold largeB; rw [ha]; rfl
      have HBb := Lib.hid hb
      clear ha hb
      by_cases h1 : 24 < l.length
      · have h1' : (24 : Int) < (l.length : Int) := by omega
        go_wp2_with fail
        go_ret
        exact ⟨by rw [HBb.out, decide_eq_true h1]; rfl, rfl⟩
      · have h1' : ¬ ((24 : Int) < (l.length : Int)) := by omega
        by_cases h2 : 12 < n
        · by_cases h3 : n ≤ 240
          · have hv : largeB n l = true := by rw [HBb.out, decide_eq_false h1, decide_eq_true h2, decide_eq_true h3]; rfl
            have HV := Lib.hid hv
            clear hv h1
            go_wp2_with fail
            go_ret
            exact ⟨by rw [HV.out]; rfl, rfl⟩
          · have hv : largeB n l = false := by rw [HBb.out, decide_eq_false h1, decide_eq_true h2, decide_eq_false h3]; rfl
            have HV := Lib.hid hv
            clear hv h1
            go_wp2_with fail
            go_ret
            exact ⟨by rw [HV.out]; rfl, rfl⟩
        · have hv : largeB n l = false := by rw [HBb.out, decide_eq_false h1, decide_eq_false h2]; rfl
          have HV := Lib.hid hv
          clear hv h1
          go_wp2_with fail
          go_ret
          exact ⟨by rw [HV.out]; rfl, rfl⟩
end
end Go.Proofs.Ytginbgclifdfiaa
