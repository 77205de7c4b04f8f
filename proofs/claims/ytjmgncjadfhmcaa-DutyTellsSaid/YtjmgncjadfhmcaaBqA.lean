/- The reference's book in memory; May, Check. -/
import Derived.Test.YtjmgncjadfhmcaaBoE
namespace Go.Proofs.Ytjmgncjadfhmcaa
open Go.RowKit

/-- the reference's book: its struct lies in block p -/
structure Rbx (w : World) (p : Nat) (S : Bs) (qa : Option Addr) (qc : Nat) (la : Option Addr) (lc : Nat) : Prop where
  book : Has w p 61 #[.slice qa S.I.length qc, .slice la S.L.length lc]
  items : ItA w qa S.I
  pcs : PcA w la S.L
  nil : la = none → lc = 0
def Rb (w : World) (p : Nat) (S : Bs) : Prop := ∃ qa qc la lc, Rbx w p S qa qc la lc
section
variable {w w' : World} {p : Nat} {S : Bs} {qa la : Option Addr} {qc lc : Nat}
theorem Rbx.up (h : Rbx w p S qa qc la lc) (q : Below w.heap.size w w') : Rbx w' p S qa qc la lc := ⟨h.book.up q, h.items.up q, h.pcs.up q, h.nil⟩
theorem Rb.up (h : Rb w p S) (q : Below w.heap.size w w') : Rb w' p S := by
  obtain ⟨qa, qc, la, lc, h⟩ := h; exact ⟨qa, qc, la, lc, h.up q⟩
theorem Rbx.off (h : Rbx w p S qa qc la lc) {g : Nat} (hg : NoInt w g) (h1 : p ≠ g) (q : w.grownBy w' (some g)) : Rbx w' p S qa qc la lc :=
  ⟨(q.block p h.book.lt (fun e => h1 (by injection e))).trans h.book, h.items.off im_int hg q, h.pcs.off pc_int hg q, h.nil⟩
theorem Rb.off (h : Rb w p S) {g : Nat} (hg : NoInt w g) (h1 : p ≠ g) (q : w.grownBy w' (some g)) : Rb w' p S := by
  obtain ⟨qa, qc, la, lc, h⟩ := h; exact ⟨qa, qc, la, lc, h.off hg h1 q⟩
theorem Rbx.noInt (h : Rbx w p S qa qc la lc) : NoInt w p := noInt_of h.book fun v hv => by
  simp at hv
  rcases hv with rfl | rfl <;> exact ⟨_, _, _, rfl⟩
theorem Rb.noInt (h : Rb w p S) : NoInt w p := by obtain ⟨_, _, _, _, h⟩ := h; exact h.noInt
theorem Rb.lt (h : Rb w p S) : p < w.heap.size := by obtain ⟨_, _, _, _, h⟩ := h; exact h.book.lt
theorem Rbx.c0 (h : Rbx w p S qa qc la lc) : w.cell? ⟨p, 0, none⟩ = some (.slice qa S.I.length qc) := h.book.cell 0
theorem Rbx.c1 (h : Rbx w p S qa qc la lc) : w.cell? ⟨p, 1, none⟩ = some (.slice la S.L.length lc) := h.book.cell 1

theorem lnB_iff {x : Ln} : lnB S x = true ↔ 0 ≤ x.it ∧ x.it < (S.I.length : Int) ∧ 1 ≤ x.un ∧ 0 ≤ x.ch ∧ 1 ≤ x.fi ∧ x.fi ≤ x.la ∧ x.la ≤ 1000000 := by
  unfold lnB hasB
  simp only [Bool.and_eq_true, decide_eq_true_eq]
  constructor
  · rintro ⟨⟨⟨⟨⟨⟨a, b⟩, c⟩, d⟩, e⟩, f⟩, g⟩; exact ⟨a, b, c, d, e, f, g⟩
  · rintro ⟨a, b, c, d, e, f, g⟩; exact ⟨⟨⟨⟨⟨⟨a, b⟩, c⟩, d⟩, e⟩, f⟩, g⟩
set_option maxRecDepth 100000 in
set_option maxHeartbeats 4000000 in
theorem may_cells {n : Nat} (it un ch fi la : Int) (V : Bool) (h0 : w.cell? ⟨p, 0, none⟩ = some (.slice qa n qc)) (hV : V = true ↔ 0 ≤ it ∧ it < (n : Int) ∧ 1 ≤ un ∧ 0 ≤ ch ∧ 1 ≤ fi ∧ fi ≤ la ∧ la ≤ 1000000) :
    Calls Try.prog 42 #[.pointer (some ⟨p, 0, none⟩), .agg #[.int .i64 it, .int .i64 un, .int .i64 ch, .int .i64 fi, .int .i64 la]] w fun e w' => e = .returned (.bool V) ∧ Below w.heap.size w w' := by
  have hlt := World.block_lt_of_cell? _ _ h0
  have k0 : (w.alloc (.cells #[.int .i64 it, .int .i64 un, .int .i64 ch, .int .i64 fi, .int .i64 la] 45)).cell? ⟨p, 0, none⟩ = some (.slice qa n qc) := kcell (boxed _ _) h0
  clear h0
  by_cases h0 : 0 ≤ it
  · by_cases h1 : it < (n : Int)
    · by_cases h2 : 1 ≤ un
      · by_cases h3 : 0 ≤ ch
        · by_cases h4 : 1 ≤ fi
          · by_cases h5 : fi ≤ la
            · by_cases h6 : la ≤ 1000000
              · obtain rfl : V = true := by exact hV.2 (by omega)
                have t0 : decide (it < 0) = false := decide_eq_false (by omega)
                have t1 : decide ((n : Int) ≤ it) = false := decide_eq_false (by omega)
                have t2 : decide (un < 1) = false := decide_eq_false (by omega)
                have t3 : decide (ch < 0) = false := decide_eq_false (by omega)
                have t4 : decide (1 ≤ fi) = true := decide_eq_true (by omega)
                have t5 : decide (fi ≤ la) = true := decide_eq_true (by omega)
                have t6 : decide (la ≤ 1000000) = true := decide_eq_true (by omega)
                clear hV h0 h1 h2 h3 h4 h5 h6
                go_enter Try.func42, Try.ntmps42
                go_wp2_with fail
                go_quiet (fail)
                go_wp2_with fail
                go_ret
                exact ⟨rfl, blw (boxed _ _) nq⟩
              · obtain rfl : V = false := by rw [Bool.eq_false_iff]; intro z; have := hV.1 z; omega
                have t0 : decide (it < 0) = false := decide_eq_false (by omega)
                have t1 : decide ((n : Int) ≤ it) = false := decide_eq_false (by omega)
                have t2 : decide (un < 1) = false := decide_eq_false (by omega)
                have t3 : decide (ch < 0) = false := decide_eq_false (by omega)
                have t4 : decide (1 ≤ fi) = true := decide_eq_true (by omega)
                have t5 : decide (fi ≤ la) = true := decide_eq_true (by omega)
                have t6 : decide (la ≤ 1000000) = false := decide_eq_false (by omega)
                clear hV h0 h1 h2 h3 h4 h5 h6
                go_enter Try.func42, Try.ntmps42
                go_wp2_with fail
                go_quiet (fail)
                go_wp2_with fail
                go_ret
                exact ⟨rfl, blw (boxed _ _) nq⟩
            · obtain rfl : V = false := by rw [Bool.eq_false_iff]; intro z; have := hV.1 z; omega
              have t0 : decide (it < 0) = false := decide_eq_false (by omega)
              have t1 : decide ((n : Int) ≤ it) = false := decide_eq_false (by omega)
              have t2 : decide (un < 1) = false := decide_eq_false (by omega)
              have t3 : decide (ch < 0) = false := decide_eq_false (by omega)
              have t4 : decide (1 ≤ fi) = true := decide_eq_true (by omega)
              have t5 : decide (fi ≤ la) = false := decide_eq_false (by omega)
              clear hV h0 h1 h2 h3 h4 h5
              go_enter Try.func42, Try.ntmps42
              go_wp2_with fail
              go_quiet (fail)
              go_wp2_with fail
              go_ret
              exact ⟨rfl, blw (boxed _ _) nq⟩
          · obtain rfl : V = false := by rw [Bool.eq_false_iff]; intro z; have := hV.1 z; omega
            have t0 : decide (it < 0) = false := decide_eq_false (by omega)
            have t1 : decide ((n : Int) ≤ it) = false := decide_eq_false (by omega)
            have t2 : decide (un < 1) = false := decide_eq_false (by omega)
            have t3 : decide (ch < 0) = false := decide_eq_false (by omega)
            have t4 : decide (1 ≤ fi) = false := decide_eq_false (by omega)
            clear hV h0 h1 h2 h3 h4
            go_enter Try.func42, Try.ntmps42
            go_wp2_with fail
            go_quiet (fail)
            go_wp2_with fail
            go_ret
            exact ⟨rfl, blw (boxed _ _) nq⟩
        · obtain rfl : V = false := by rw [Bool.eq_false_iff]; intro z; have := hV.1 z; omega
          have t0 : decide (it < 0) = false := decide_eq_false (by omega)
          have t1 : decide ((n : Int) ≤ it) = false := decide_eq_false (by omega)
          have t2 : decide (un < 1) = false := decide_eq_false (by omega)
          have t3 : decide (ch < 0) = true := decide_eq_true (by omega)
          clear hV h0 h1 h2 h3
          go_enter Try.func42, Try.ntmps42
          go_wp2_with fail
          go_quiet (fail)
          go_wp2_with fail
          go_ret
          exact ⟨rfl, blw (boxed _ _) nq⟩
      · obtain rfl : V = false := by rw [Bool.eq_false_iff]; intro z; have := hV.1 z; omega
        have t0 : decide (it < 0) = false := decide_eq_false (by omega)
        have t1 : decide ((n : Int) ≤ it) = false := decide_eq_false (by omega)
        have t2 : decide (un < 1) = true := decide_eq_true (by omega)
        clear hV h0 h1 h2
        go_enter Try.func42, Try.ntmps42
        go_wp2_with fail
        go_quiet (fail)
        go_wp2_with fail
        go_ret
        exact ⟨rfl, blw (boxed _ _) nq⟩
    · obtain rfl : V = false := by rw [Bool.eq_false_iff]; intro z; have := hV.1 z; omega
      have t0 : decide (it < 0) = false := decide_eq_false (by omega)
      have t1 : decide ((n : Int) ≤ it) = true := decide_eq_true (by omega)
      clear hV h0 h1
      go_enter Try.func42, Try.ntmps42
      go_wp2_with fail
      go_quiet (fail)
      go_wp2_with fail
      go_ret
      exact ⟨rfl, blw (boxed _ _) nq⟩
  · obtain rfl : V = false := by rw [Bool.eq_false_iff]; intro z; have := hV.1 z; omega
    have t0 : decide (it < 0) = true := decide_eq_true (by omega)
    clear hV h0
    go_enter Try.func42, Try.ntmps42
    go_wp2_with fail
    go_quiet (fail)
    go_wp2_with fail
    go_ret
    exact ⟨rfl, blw (boxed _ _) nq⟩
theorem qmay_any (x : Ln) (h : Rb w p S) : Calls Try.prog 42 #[.pointer (some ⟨p, 0, none⟩), x.val] w fun e w' => e = .returned (.bool (lnB S x)) ∧ Below w.heap.size w w' := by
  obtain ⟨_, _, _, _, h⟩ := h
  exact may_cells x.it x.un x.ch x.fi x.la _ h.c0 lnB_iff
set_option maxRecDepth 100000 in
set_option maxHeartbeats 4000000 in
theorem qcheck_any (a : Option Addr) (cap : Nat) (l : List Ln) (h : Rb w p S) (hl : LnA w a l) : Calls Try.prog 25 #[.pointer (some ⟨p, 0, none⟩), .slice a l.length cap] w fun e w' => e = .returned (.int .i64 (chkE S l)) ∧ Below w.heap.size w w' := by
  obtain ⟨n, hn⟩ : ∃ n, n = l.length := ⟨_, rfl⟩
  have hE : chkE S l = if 12 < n then 4 else if n = 0 then 1 else if l.all (lnB S) = true then 0 else 1 := by rw [hn]; rfl
  rw [hE, ← hn]
  clear hE
  by_cases q1 : 12 < n
  · rw [if_pos q1]
    have q1' : ((12 : Int) < (n : Int)) := by omega
    clear h hl hn
    go_enter Try.func25, Try.ntmps25
    go_wp2_with fail
    go_ret
    exact ⟨rfl, Below.refl _ _⟩
  · rw [if_neg q1]
    by_cases q2 : n = 0
    · rw [if_pos q2]
      subst q2
      clear h hl hn q1
      go_enter Try.func25, Try.ntmps25
      go_wp2_with fail
      go_ret
      exact ⟨rfl, Below.refl _ _⟩
    · rw [if_neg q2]
      have hlen : n ≤ 12 := by omega
      have hz : ¬ ((n : Int) < 1) := by omega
      obtain ⟨E, hE⟩ : ∃ E : Int, E = if l.all (lnB S) = true then 0 else 1 := ⟨_, rfl⟩
      rw [← hE]
      have HE := Lib.hid hE
      have HT := Lib.hid (fun (W : World) (hb : Below w.heap.size w W) (x : Ln) => qmay_any x (h.up hb))
      have HL := Lib.hid hl
      have HN := Lib.hid hn
      clear h hl hn q1 q2 hE
      go_enter Try.func25, Try.ntmps25
      go_wp2_with fail
      go_loopw [5] (fun i wr => ∃ k : Nat, k ≤ n ∧ i = .int .i64 (k : Int) ∧ (∀ t x, t < k → l[t]? = some x → lnB S x = true) ∧ Below w.heap.size w wr) (fun i _ => n - (intOf i).toNat)
      case atStart => exact ⟨0, Nat.zero_le _, rfl, fun t x ht _ => by omega, Below.refl _ _⟩
      case round =>
        obtain ⟨k, hk, rfl, hall, hb⟩ := hrel
        have HA := Lib.hid hall
        have HB := Lib.hid hb
        clear hall hb
        by_cases hlt : k < n
        · obtain ⟨x, hx⟩ : ∃ x, l[k]? = some x := ⟨l[k]'(by rw [← HN.out]; exact hlt), List.getElem?_eq_getElem _⟩
          obtain ⟨b, o, ha, c0, c1, c2, c3, c4⟩ := ln_at (HL.out.up HB.out) hx
          subst ha
          have HX := Lib.hid hx
          clear hx
          go_wp2_with fail
          have hT := HT.out wr HB.out x
          unfold Ln.val at hT
          refine hT.mono ?_
          rintro e w1 ⟨rfl, hb1⟩
          have HB1 := Lib.hid (up2 HB.out hb1)
          clear hT hb1 c0 c1 c2 c3 c4
          cases q : lnB S x with
          | true =>
            have HQ := Lib.hid q
            clear q
            go_wp2_with fail
            go_roundw
            case rel =>
              refine ⟨k + 1, by omega, by go_num, fun t y ht hy => ?_, HB1.out⟩
              by_cases z : t = k
              · subst z; rw [HX.out] at hy; obtain rfl := Option.some.inj hy; exact HQ.out
              · exact HA.out t y (by omega) hy
            case measure => simp [intOf]; omega
          | false =>
            have hno : ¬ l.all (lnB S) = true := fun z => by
              have := List.all_eq_true.1 z x (List.mem_of_getElem? HX.out)
              rw [q] at this; cases this
            have hE : E = 1 := by rw [HE.out, if_neg hno]
            subst hE
            clear q hno
            go_wp2_with fail
            go_ret
            exact ⟨rfl, HB1.out⟩
        · have hyes : l.all (lnB S) = true := List.all_eq_true.2 fun x hx => by
            obtain ⟨i, hi⟩ := List.getElem?_of_mem hx
            have := (List.getElem?_eq_some_iff.1 hi).1
            exact HA.out i x (by rw [← HN.out] at this; omega) hi
          have hE : E = 0 := by rw [HE.out, if_pos hyes]
          subst hE
          clear hyes
          go_wp2_with fail
          go_ret
          exact ⟨rfl, HB.out⟩
end
end Go.Proofs.Ytjmgncjadfhmcaa
