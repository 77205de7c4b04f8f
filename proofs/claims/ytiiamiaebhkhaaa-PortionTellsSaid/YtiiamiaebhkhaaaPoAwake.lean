/- Contract: awake of the statements of layer 2: it answers true. -/
import Derived.Test.YtiiamiaebhkhaaaPoSteps
namespace Go.Proofs.Ytiiamiaebhkhaaa
open Go.RowKit

def lit (l : List Int) : Nat → Int := fun t => l.getD t 0
theorem lit_am {l : List Int} (h : ∀ x ∈ l, Am x) : Amounts (lit l) := by
  intro k
  unfold lit
  rw [List.getD_eq_getElem?_getD]
  by_cases e : k < l.length
  · rw [List.getElem?_eq_getElem e]; exact h _ (List.getElem_mem e)
  · rw [List.getElem?_eq_none (by omega)]; exact ⟨by simp, by simp⟩
theorem row3 (W : World) (x y z : Int) (T : Nat) : Row (W.alloc (.cells #[.int .i64 x, .int .i64 y, .int .i64 z] T)) W.heap.size 0 3 (lit [x, y, z]) := by
  intro k hk
  have : k = 0 ∨ k = 1 ∨ k = 2 := by omega
  rcases this with rfl | rfl | rfl <;> simp [go_sem, lit]
theorem row2 (W : World) (x y : Int) (T : Nat) : Row (W.alloc (.cells #[.int .i64 x, .int .i64 y] T)) W.heap.size 0 2 (lit [x, y]) := by
  intro k hk
  have : k = 0 ∨ k = 1 := by omega
  rcases this with rfl | rfl <;> simp [go_sem, lit]
theorem row1 (W : World) (x : Int) (T : Nat) : Row (W.alloc (.cells #[.int .i64 x] T)) W.heap.size 0 1 (lit [x]) := by
  intro k hk
  have : k = 0 := by omega
  subst this; simp [go_sem, lit]
/-- an answer that is a list, and no error -/
def Gives (w : World) (n : Nat) (v : Nat → Int) (e : Ending) (w' : World) : Prop :=
  ∃ p, e = .returned (.tuple #[.slice (some ⟨p, 0, none⟩) n n, .int .i64 0]) ∧ Below w.heap.size w w' ∧ w.heap.size ≤ p ∧ Row w' p 0 n v
theorem listed_gives {w w' : World} {n : Nat} {v u : Nat → Int} {e : Ending} (h : Listed w 0 n v e w') (hv : ∀ t, t < n → v t = u t) : Gives w n u e w' := by
  obtain ⟨hb, ⟨q, _⟩ | ⟨_, p, he, hp, hi⟩⟩ := h
  · exact absurd rfl q
  · exact ⟨p, he, hb, hp, fun t ht => by rw [Nat.zero_add, ← hv t ht]; exact (hi t ht).1⟩
theorem three {P : Nat → Prop} (h0 : P 0) (h1 : P 1) (h2 : P 2) : ∀ t, t < 3 → P t := by
  intro t ht
  have : t = 0 ∨ t = 1 ∨ t = 2 := by omega
  rcases this with rfl | rfl | rfl <;> assumption
theorem arg_of {W : World} {b off n : Nat} {f : Nat → Int} (h : Row W b off n f) : Arg W (some ⟨b, off, none⟩) n f := fun _ => ⟨b, off, rfl, h⟩
theorem am_small {l : List Int} (h : ∀ x ∈ l, -1000 ≤ x ∧ x ≤ 1000) : Amounts (lit l) := lit_am fun x hx => by have := h x hx; unfold Am; omega

theorem out_ten (W : World) (b cap : Nat) (h : Row W b 0 3 (lit [1, 5, 1])) : Calls Try.prog 8 #[.int .i64 10, .slice (some ⟨b, 0, none⟩) 3 cap] W (Gives W 3 (lit [2, 7, 1])) := by
  refine (out_any 10 (lit [1, 5, 1]) (some ⟨b, 0, none⟩) 3 cap W (am_small (by decide)) (by decide) (by decide) (arg_of h)).mono ?_
  rintro e w' ⟨q, _⟩
  rw [show outE 10 (lit [1, 5, 1]) 3 = 0 by decide] at q
  exact listed_gives q (three (by decide) (by decide) (by decide))
theorem out_minus (W : World) (b cap : Nat) (h : Row W b 0 3 (lit [1, 5, 1])) : Calls Try.prog 8 #[.int .i64 (-10), .slice (some ⟨b, 0, none⟩) 3 cap] W (Gives W 3 (lit [-2, -7, -1])) := by
  refine (out_any (-10) (lit [1, 5, 1]) (some ⟨b, 0, none⟩) 3 cap W (am_small (by decide)) (by decide) (by decide) (arg_of h)).mono ?_
  rintro e w' ⟨q, _⟩
  rw [show outE (-10) (lit [1, 5, 1]) 3 = 0 by decide] at q
  exact listed_gives q (three (by decide) (by decide) (by decide))
theorem out_zero (W : World) (b cap : Nat) (h : Row W b 0 1 (lit [0])) : Calls Try.prog 8 #[.int .i64 10, .slice (some ⟨b, 0, none⟩) 1 cap] W fun e w' => e = .returned (.tuple #[.slice none 0 0, .int .i64 1]) ∧ Below W.heap.size W w' := by
  refine (out_any 10 (lit [0]) (some ⟨b, 0, none⟩) 1 cap W (am_small (by decide)) (by decide) (by decide) (arg_of h)).mono ?_
  rintro e w' ⟨⟨hb, q⟩, _⟩
  rw [show outE 10 (lit [0]) 1 = 1 by decide] at q
  rcases q with ⟨_, q⟩ | ⟨q, _⟩
  · exact ⟨q, hb⟩
  · exact absurd q (by decide)
theorem steps_three (W : World) (b cap : Nat) (h : Row W b 0 3 (lit [1, 2, 3])) : Calls Try.prog 10 #[.int .i64 10, .slice (some ⟨b, 0, none⟩) 3 cap, .int .i64 3] W (Gives W 3 (lit [3, 3, 4])) := by
  have e0 : stepE (lit [1, 2, 3]) 3 3 = 0 := by
    unfold stepE
    rw [if_neg (by decide), if_neg]
    rintro (q | q)
    · exact absurd q (by decide)
    · exact q (three (by decide) (by decide) (by decide))
  refine (steps_any 10 (lit [1, 2, 3]) (some ⟨b, 0, none⟩) 3 cap 3 W (by decide) (by decide) (by decide) (arg_of h)).mono ?_
  intro e w' q
  rw [e0] at q
  exact listed_gives q (three (by decide) (by decide) (by decide))
theorem steps_falls (W : World) (b cap : Nat) (h : Row W b 0 2 (lit [2, 1])) : Calls Try.prog 10 #[.int .i64 10, .slice (some ⟨b, 0, none⟩) 2 cap, .int .i64 3] W fun e w' => e = .returned (.tuple #[.slice none 0 0, .int .i64 1]) ∧ Below W.heap.size W w' := by
  have e0 : stepE (lit [2, 1]) 3 2 = 1 := by
    unfold stepE
    rw [if_neg (by decide), if_pos (.inr fun q => absurd (q 1 (by decide)).1 (by decide))]
  refine (steps_any 10 (lit [2, 1]) (some ⟨b, 0, none⟩) 2 cap 3 W (by decide) (by decide) (by decide) (arg_of h)).mono ?_
  rintro e w' ⟨hb, q⟩
  rw [e0] at q
  rcases q with ⟨_, q⟩ | ⟨q, _⟩
  · exact ⟨q, hb⟩
  · exact absurd q (by decide)

theorem up1 {w W : World} (h : Below w.heap.size w W) (o : Obj) : Below w.heap.size w (W.alloc o) := h.alloc h.size _
theorem up2 {w W W' : World} (h : Below w.heap.size w W) (k : Below W.heap.size W W') : Below w.heap.size w W' := h.trans (k.mono h.size)
theorem Row.alloc {W : World} {b off n : Nat} {f : Nat → Int} (h : Row W b off n f) (o : Obj) : Row (W.alloc o) b off n f := h.below ((Below.refl _ _).alloc (Nat.le_refl _) _)

set_option maxRecDepth 100000 in
set_option maxHeartbeats 1000000 in
theorem awake2 (w : World) : Calls Try.prog 7 #[] w fun e w' => e = .returned (.bool true) ∧ Below w.heap.size w w' := by
  go_enter Try.func7, Try.ntmps7
  go_wp2_with fail
  refine (out_ten _ _ _ (row3 w 1 5 1 2)).mono ?_
  rintro e w1 ⟨a, rfl, hb, ha, ra⟩
  have HB1 := Lib.hid (up2 (up1 (Below.refl _ _) _) hb)
  have RA := Lib.hid ra
  clear hb ha ra
  go_wp2_with fail
  refine (out_minus _ _ _ (row3 w1 1 5 1 2)).mono ?_
  rintro e w2 ⟨c, rfl, hb, hc, rc⟩
  have HB2 := Lib.hid (up2 (up1 HB1.out _) hb)
  have RA2 := Lib.hid ((RA.out.alloc _).below hb)
  have RC := Lib.hid rc
  clear hb hc rc RA HB1
  go_wp2_with fail
  refine (steps_three _ _ _ (row3 w2 1 2 3 2)).mono ?_
  rintro e w3 ⟨d, rfl, hb, hd, rd⟩
  have HB3 := Lib.hid (up2 (up1 HB2.out _) hb)
  have RA3 := Lib.hid ((RA2.out.alloc _).below hb)
  have RC3 := Lib.hid ((RC.out.alloc _).below hb)
  have RD := Lib.hid rd
  clear hb hd rd RA2 RC HB2
  go_wp2_with fail
  refine (out_zero _ _ _ (row1 w3 0 2)).mono ?_
  rintro e w4 ⟨rfl, hb⟩
  have HB4 := Lib.hid (up2 (up1 HB3.out _) hb)
  have RA4 := Lib.hid ((RA3.out.alloc _).below hb)
  have RC4 := Lib.hid ((RC3.out.alloc _).below hb)
  have RD4 := Lib.hid ((RD.out.alloc _).below hb)
  clear hb RA3 RC3 RD HB3
  go_wp2_with fail
  refine (steps_falls _ _ _ (row2 w4 2 1 2)).mono ?_
  rintro e w5 ⟨rfl, hb⟩
  have HB5 := Lib.hid (up2 (up1 HB4.out _) hb)
  have RA5 := Lib.hid ((RA4.out.alloc _).below hb)
  have RC5 := Lib.hid ((RC4.out.alloc _).below hb)
  have RD5 := Lib.hid ((RD4.out.alloc _).below hb)
  clear hb RA4 RC4 RD4 HB4
  go_wp2_with fail
  refine (same_yes (lit [2, 7, 1]) (lit [2, 7, 1]) _ _ 3 _ _ _ (by decide) (arg_of (RA5.out.alloc _)) (arg_of (row3 w5 2 7 1 2)) (fun _ _ => rfl)).mono ?_
  rintro e w6 ⟨rfl, hb⟩
  have HB6 := Lib.hid (up2 (up1 HB5.out _) hb)
  have RC6 := Lib.hid ((RC5.out.alloc _).below hb)
  have RD6 := Lib.hid ((RD5.out.alloc _).below hb)
  clear hb RA5 RC5 RD5 HB5
  go_wp2_with fail
  refine (same_yes (lit [-2, -7, -1]) (lit [-2, -7, -1]) _ _ 3 _ _ _ (by decide) (arg_of (RC6.out.alloc _)) (arg_of (row3 w6 (-2) (-7) (-1) 2)) (fun _ _ => rfl)).mono ?_
  rintro e w7 ⟨rfl, hb⟩
  have HB7 := Lib.hid (up2 (up1 HB6.out _) hb)
  have RD7 := Lib.hid ((RD6.out.alloc _).below hb)
  clear hb RC6 RD6 HB6
  go_wp2_with fail
  refine (same_yes (lit [3, 3, 4]) (lit [3, 3, 4]) _ _ 3 _ _ _ (by decide) (arg_of (RD7.out.alloc _)) (arg_of (row3 w7 3 3 4 2)) (fun _ _ => rfl)).mono ?_
  rintro e w8 ⟨rfl, hb⟩
  have HB8 := Lib.hid (up2 (up1 HB7.out _) hb)
  clear hb RD7 HB7
  go_wp2_with fail
  go_ret
  exact ⟨rfl, HB8.out⟩
end Go.Proofs.Ytiiamiaebhkhaaa
