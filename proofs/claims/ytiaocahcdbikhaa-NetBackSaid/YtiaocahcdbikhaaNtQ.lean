/- The program's net: the sheet, a posting more; change; post; Bill, Earn. -/
import Derived.Test.YtiaocahcdbikhaaNtP
import Derived.Test.YtiaocahcdbikhaaRn
namespace Go.Proofs.Ytiaocahcdbikhaa
open Go.RowKit

theorem grown_of17 {w w' : World} (q : Below w.heap.size w w') (row : Option Nat) : w.grownBy w' row := ⟨q.os, q.tape, q.output, q.size, fun i hi _ => q.block i hi⟩
theorem grown_set17 (w : World) (g i : Nat) (v : Value) : w.grownBy (w.setCell ⟨g, i, none⟩ v) (some g) :=
  ⟨rfl, rfl, rfl, by simp, fun k _ hn => Below.heap_setCell w ⟨g, i, none⟩ v k (fun e => hn (by rw [e]))⟩
theorem own_ne17 {w : World} {B T z n g T' : Nat} {v : Value} {xs : List Value} {cs : Array Value} (h : w.ownsRow B T z v n xs) (hh : Has w g T' cs) (hT : T ≠ T') : v.ownBlock ≠ some g := by
  rcases h.2 with ⟨rfl, _⟩ | ⟨g', cap, cur, rfl, _, h3, _⟩
  · simp [Value.ownBlock]
  · intro e
    have e : g' = g := by simpa [Value.ownBlock] using e
    subst e
    unfold Has at hh
    rw [hh] at h3
    injection h3 with h3
    injection h3 with _ e
    exact hT e.symm
theorem own_up17 {w w' : World} {B T z n : Nat} {v : Value} {xs : List Value} (h : w.ownsRow B T z v n xs) (q : Below w.heap.size w w') : w'.ownsRow B T z v n xs :=
  h.kept (grown_of17 q none) (by cases v.ownBlock <;> simp)
theorem own_form17 {w : World} {B T z n : Nat} {v : Value} {xs : List Value} (h : w.ownsRow B T z v n xs) : ∃ a c, v = .slice a n c := by
  rcases h.2 with ⟨e1, e2⟩ | ⟨g, cap, cur, e, _⟩
  · exact ⟨none, 0, by rw [e1, e2]⟩
  · exact ⟨_, cap, e⟩
/-- a sheet in memory: of contract c, with the postings L; all of it is new since w0 -/
structure Sh (w0 w : World) (p : Nat) (c : Int) (L : List Po) (v : Value) : Prop where
  has : Has w p 63 #[.int .i64 c, v]
  own : w.ownsRow w0.heap.size 35 3 v L.length (flat L)
  p0 : w0.heap.size ≤ p
  bel : Below w0.heap.size w0 w
section
variable {w0 w w' : World} {p : Nat} {c : Int} {L : List Po} {v : Value}
theorem Sh.up (h : Sh w0 w p c L v) (q : Below w.heap.size w w') : Sh w0 w' p c L v := ⟨h.has.up q, own_up17 h.own q, h.p0, h.bel.trans (q.mono h.bel.size)⟩
theorem flat_one17 (x : Po) : flat [x] = [.int .i64 x.a, .int .i64 x.c, .int .i64 x.m] := rfl
theorem flat_app17 (l k : List Po) : flat (l ++ k) = flat l ++ flat k := by simp [flat]
/-- what stays: blocks of other types -/
def Oth17 (w w' : World) : Prop := ∀ g t cs, Has w g t cs → t ≠ 63 → t ≠ 35 → Has w' g t cs
theorem Oth17.of (q : Below w.heap.size w w') : Oth17 w w' := fun _ _ _ h _ _ => h.up q
theorem Oth17.trans {w2 : World} (h : Oth17 w w') (k : Oth17 w' w2) : Oth17 w w2 := fun g t cs z q1 q2 => k g t cs (h g t cs z q1 q2) q1 q2
/-- a posting more -/
theorem Sh.push (h : Sh w0 w p c L v) (hl : L.length ≤ 8) (x : Po) {y : Nat} (hy : Has w y 35 #[.int .i64 x.a, .int .i64 x.c, .int .i64 x.m]) :
    ∃ a k w' v' a2 c2, v = .slice a L.length k ∧ v' = .slice a2 (L.length + 1) c2 ∧ (Builtin.append_ #[26, 26] 26 #[.slice a L.length k, .slice (some ⟨y, 0, none⟩) 1 1]).run Try.prog w = .ok v' w' ∧ w'.cell? ⟨p, 1, none⟩ = some v ∧ w'.frozen? ⟨p, 1, none⟩ = false ∧ Sh w0 (w'.setCell ⟨p, 1, none⟩ v') p c (L ++ [x]) v' ∧ Oth17 w (w'.setCell ⟨p, 1, none⟩ v') := by
  obtain ⟨a, k, rfl⟩ := own_form17 h.own
  obtain ⟨i, hi, hz0, hz1, hz2⟩ := info_parts infoPost
  obtain ⟨v', w', hr, ho, hg, _⟩ := run_append_own (P := Try.prog) w w0.heap.size 26 26 35 i _ 3 24 Try.underlying26 hi hz0 hz1 hz2 rfl (by decide) _ L.length _ h.own ⟨y, 0, none⟩ 1 1 (flat [x]) rfl
    (fun j u hu => by
      rw [addr_off, Nat.zero_add, hy.cell]
      exact (List.getElem?_toArray (xs := flat [x]) (i := j)).trans hu)
    (fun u hu => by rw [flat_one17] at hu; simp at hu; rcases hu with rfl | rfl | rfl <;> rfl) (by unfold maxLen; omega) (by omega) h.bel.size
  have hpne : (Value.slice a L.length k).ownBlock ≠ some p := own_ne17 h.own h.has (by decide)
  have hp' : Has w' p 63 _ := (hg.block p h.has.lt (fun e => hpne e.symm)).trans h.has
  have hs := hp'.put 1 v'
  have hset := grown_set17 w' p 1 v'
  obtain ⟨a2, c2, hv2⟩ := own_form17 ho
  refine ⟨a, k, w', v', a2, c2, rfl, hv2, hr, ?_, hp'.free 1, ⟨hs, ?_, h.p0, ?_⟩, fun g t cs z q1 q2 => ?_⟩
  · have := hp'.cell 1; simpa using this
  · have hk := ho.kept hset (.inr (own_ne17 ho hp' (by decide)))
    rw [List.length_append, flat_app17]
    exact hk
  · exact ((h.bel.grown hg h.bel.size fun j hj => (World.ownsRow.lt h.own j hj).1)).setCell h.p0 _
  · have z' : Has w' g t cs := (hg.block g z.lt (fun e => own_ne17 h.own z (Ne.symm q2) e.symm)).trans z
    exact z'.off (z'.ne hp' q1) _
/-- what a posting that is laid leaves -/
def ShR (w0 w : World) (p : Nat) (c : Int) (L : List Po) (e : Ending) (w' : World) : Prop := e = .returned (.tuple #[]) ∧ (∃ v', Sh w0 w' p c L v') ∧ Oth17 w w'
set_option maxRecDepth 100000 in
set_option maxHeartbeats 4000000 in
theorem ntdebit_any (h : Sh w0 w p c L v) (hl : L.length ≤ 8) (a f t : Int) (hf : 0 ≤ f) (hf1 : f ≤ 9223372036854775807) (ht : 0 ≤ t) (ht1 : t ≤ 9223372036854775807) :
    Calls Try.prog 29 #[.pointer (some ⟨p, 0, none⟩), .int .i64 a, .int .i64 f, .int .i64 t] w (ShR w0 w p c (L ++ onePo a c (t - f))) := by
  unfold ShR
  have H1 := Lib.hid (fun (W : World) => less_calls t f W (by omega) ht1 (by omega) hf1)
  rw [tellV17 (by unfold Am; omega), tellE17 (by unfold Am; omega)] at H1
  have HH := Lib.hid h
  have HLen := Lib.hid hl
  obtain ⟨la, lk, hv⟩ := own_form17 h.own
  obtain ⟨k, hk⟩ : ∃ k, k = L.length := ⟨_, rfl⟩
  have HK := Lib.hid hk
  rw [← hk] at hv hl
  subst hv
  have hOne : onePo a c (t - f) = if t - f = 0 then [] else [⟨a, c, t - f⟩] := rfl
  rw [hOne]
  generalize t - f = n at H1 ⊢
  clear hf hf1 ht ht1 hk hOne h
  by_cases q : n = 0
  · subst q
    rw [if_pos rfl, List.append_nil]
    go_enter Try.func29, Try.ntmps29
    go_wp2_with fail
    refine (H1.out _).mono ?_
    rintro e w1 ⟨rfl, hb⟩
    have HB := Lib.hid hb
    clear hb
    go_wp2_with fail
    go_end0
    exact ⟨rfl, ⟨_, HH.out.up HB.out⟩, Oth17.of HB.out⟩
  · rw [if_neg q]
    have q' : (n != 0) = true := by simpa using q
    have q2 : (n == 0) = false := by simpa using q
    clear q
    go_enter Try.func29, Try.ntmps29
    go_wp2_with fail
    refine (H1.out _).mono ?_
    rintro e w1 ⟨rfl, hb⟩
    have HB := Lib.hid hb
    have h1 := HH.out.up hb
    have H1b := Lib.hid h1
    have c0 := h1.has.cell 0
    have c1 := h1.has.cell 1
    simp at c0 c1
    clear hb h1
    obtain ⟨WA, hWA⟩ : ∃ WA, WA = (w1.alloc (.cells #[.int .i64 a, .int .i64 c, .int .i64 n] 35)).drew := ⟨_, rfl⟩
    have hbA : Below w1.heap.size w1 WA := by rw [hWA]; exact (boxed _ _).drew
    obtain ⟨a', k', w6, v6, a2, c2, e1, e2, hr, g1, g2, hT, hO⟩ := (H1b.out.up hbA).push HLen.out ⟨a, c, n⟩ (y := w1.heap.size) (by rw [hWA]; exact Has.fresh w1 _ _)
    rw [← HK.out] at e1 e2 hr
    injection e1 with e1 _ e3
    subst e1; subst e3; subst e2
    have d0 := kcell hbA c0
    have d1 := kcell hbA c1
    have hlt := World.block_lt_of_cell? (a := ⟨p, 1, none⟩) _ c1
    rw [hWA] at d0 d1
    have HR := Lib.hid hr
    have HT := Lib.hid hT
    have HO := Lib.hid ((Oth17.of (up2 HB.out hbA)).trans hO)
    have HWA := Lib.hid hWA
    clear hr hT hWA hbA hO
    go_wp2_with fail
    go_region_law (first
      | (refine step_run (by rfl) (.tmp 22) (.tmp 30) 26 (by rfl) _ _ (by rfl) (by rfl) (S := fun u q => u = .slice a2 (k + 1) c2 ∧ q = w6) ⟨_, w6, (by first | exact HR.out | (rw [← HWA.out]; exact HR.out)), rfl, rfl⟩ ?_; rintro u q ⟨rfl, rfl⟩))
    all_goals
      go_wp2_with fail
      go_end0
      exact ⟨rfl, ⟨_, HT.out⟩, HO.out⟩
end
end Go.Proofs.Ytiaocahcdbikhaa
