/- DoneOrder: its core. -/
import Derived.Test.YtlplbgandehkcaaDnG
namespace Go.Proofs.Ytlplbgandehkcaa
open Go.RowKit

theorem infoLEvent : (Try.prog.info? 35).map (fun i => (i.zero, i.size, i.bytes)) = some (some (.agg #[.int .i64 0, .int .i64 0]), 2, 16) := by kernel_rfl
/-- a store into another log leaves one -/
theorem TgX.beside {w w' : World} {B p px : Nat} {d : Dt} {E : List Tl} {la : Option Addr} {lc : Nat} {tv : Value} {cs : Array Value} (h : TgX w B p d E la lc tv) (q : w.grownBy w' (some px)) (hx : Has w px 52 cs) (hne : p ≠ px) : TgX w' B p d E la lc tv :=
  h.off q (fun e => hne (by injection e)) (.inr (own_ne h.lns hx (by decide))) (.inr (own_ne h.own hx (by decide)))
section
variable {w0 w w' : World} {p : Nat} {d : Dt} {E : List Tl}
theorem Tg.beside (h : Tg w w p d E) {p2 : Nat} {d2 : Dt} {E2 : List Tl} (h2 : Tg w w' p2 d2 E2) (hl : ∃ cs, Has w p2 52 cs) (hne : p ≠ p2) : ∃ la lc tv, TgX w' w.heap.size p d E la lc tv := by
  obtain ⟨⟨la, lc, tv, hx⟩, _⟩ := h
  obtain ⟨cs, hl⟩ := hl
  exact ⟨la, lc, tv, hx.beside h2.kp hl hne⟩
theorem Tg.log (h : Tg w0 w p d E) : ∃ cs, Has w p 52 cs := by
  obtain ⟨⟨la, lc, tv, hx⟩, _⟩ := h; exact ⟨_, hx.has⟩
theorem Tg.of (h : ∃ la lc tv, TgX w w.heap.size p d E la lc tv) : Tg w w p d E := ⟨h, grown_of (Below.refl _ _) _⟩
/-- an append to a row of another type leaves a log -/
theorem Tg.other (h : Tg w0 w p d E) {T z n : Nat} {v : Value} {xs : List Value} (ho : w.ownsRow w0.heap.size T z v n xs) (h1 : T ≠ 52) (h2 : T ≠ 54) (h3 : T ≠ 3) (q : w.grownBy w' v.ownBlock) : Tg w0 w' p d E := by
  obtain ⟨⟨la, lc, tv, hx⟩, hk⟩ := h
  refine ⟨⟨la, lc, tv, hx.off q (fun e => own_ne ho hx.has h1 e.symm) (own_two hx.lns ho (Ne.symm h3)) (own_two hx.own ho (Ne.symm h2))⟩, ⟨q.os.trans hk.os, q.tape.trans hk.tape, q.output.trans hk.output, Nat.le_trans hk.size q.size, fun k hk1 hne => ?_⟩⟩
  rw [← hk.block k hk1 hne]
  refine q.block k (Nat.lt_of_lt_of_le hk1 hk.size) (fun e => ?_)
  have := (ho.lt k e.symm).1
  omega
/-- what went through, with one more -/
theorem Tg.went (h : Tg w0 w p d E) {L : List Tl} {a : Option Addr} {n c : Nat} (hn : L.length = n) (ho : w.ownsRow w0.heap.size 35 2 (.slice a n c) n (L.flatMap tlC)) (hl : n ≤ 1000) {x : Tl} {y : Nat} (hy : Has w y 35 #[.int .i64 x.1, .int .i64 x.2]) :
    ∃ a' c' w', (Builtin.append_ #[25, 25] 25 #[.slice a n c, .slice (some ⟨y, 0, none⟩) 1 1]).run Try.prog w = .ok (.slice a' (n + 1) c') w' ∧ w'.ownsRow w0.heap.size 35 2 (.slice a' (n + 1) c') (n + 1) ((L ++ [x]).flatMap tlC) ∧ Tg w0 w' p d E := by
  obtain ⟨i, hi, hz0, hz1, hz2⟩ := info_parts infoLEvent
  obtain ⟨v', w', hr, ho', hg, _, _⟩ := run_append_own_at (P := Try.prog) w w0.heap.size 25 25 35 i _ 2 16 Try.underlying25 hi hz0 hz1 hz2 rfl (by decide) _ n _ ho ⟨y, 0, none⟩ 1 1 (tlC x) rfl
    (fun j u hu => by
      rw [addr_off, Nat.zero_add, hy.cell]
      exact (List.getElem?_toArray (xs := tlC x) (i := j)).trans hu)
    (fun u hu => by simp [tlC] at hu; rcases hu with rfl | rfl <;> rfl) (by unfold maxLen; omega) (by omega) h.kp.size
  obtain ⟨a', c', rfl⟩ := own_formb ho'
  refine ⟨a', c', w', hr, ?_, h.other ho (by decide) (by decide) (by decide) hg⟩
  rw [List.flatMap_append]; simpa using ho'
end
theorem tells_len (m : Int) (l : List Tl) (E : List Tl) : (tells m l E).length ≤ E.length + l.length := by
  induction l generalizing E with
  | nil => simp [tells]
  | cons x l ih =>
    have h1 := ih (telS m E x.1 x.2)
    have h2 : (telS m E x.1 x.2).length ≤ E.length + 1 := by unfold telS; split <;> simp
    show (tells m l (telS m E x.1 x.2)).length ≤ _
    rw [List.length_cons]; omega
end Go.Proofs.Ytlplbgandehkcaa
