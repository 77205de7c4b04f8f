/- An append in a region, and in a walk, by what it gives; Clone of items; put. -/
import Derived.Deep.RegionLaw
import Derived.Laws.Rows
import Derived.Maps.AppendAt
import Derived.Lib.AppendZeros
import Derived.Test.YtjmgncjadfhmcaaBoA
namespace Go.Proofs.Ytjmgncjadfhmcaa
open Go.RowKit

section
variable {P : Program} {ops : Array Oper} {o : Oper} {a : Act} {w : World} {K : Act → World → Prop} {Q : Exit → Act → World → Prop} {E : Prop}
/-- an append in a region, by what it gives -/
theorem step_run (hgd : o.guard = none) (s x : Operand) (t : TypeId) (ho : o.op = .call { callee := .builtin .append, args := #[s, x], argTypes := #[t, t] }) (vs vx : Value) (hs : a.eval s = vs) (hx : a.eval x = vx)
    {S : Value → World → Prop} (hr : ∃ v' w', (Builtin.append_ #[t, t] o.type #[vs, vx]).run P w = .ok v' w' ∧ S v' w') (h : ∀ v' w', S v' w' → K (a.put o.dst v') w') :
    if Region.wanted o (yielded ops a.tmps) = true then Oper.wp P o a w K Q else E := by
  have hw : Region.wanted o (yielded ops a.tmps) = true := by simp [Region.wanted, hgd]
  rw [if_pos hw]
  obtain ⟨v', w', hr, hS⟩ := hr
  exact Lib.wp_append_run w s x t t ho vs vx hs hx v' w' hr (h v' w' hS)
end
/-- an append in a walk, by what it gives -/
theorem wpList_run {P : Program} {w : World} {ops : Array Oper} {rest : List Oper} {o : Oper} {a : Act} {Q : Exit → Act → World → Prop} (hgd : o.guard = none) (s x : Operand) (t : TypeId)
    (ho : o.op = .call { callee := .builtin .append, args := #[s, x], argTypes := #[t, t] }) (vs vx : Value) (hs : a.eval s = vs) (hx : a.eval x = vx)
    {S : Value → World → Prop} (hr : ∃ v' w', (Builtin.append_ #[t, t] o.type #[vs, vx]).run P w = .ok v' w' ∧ S v' w') (h : ∀ v' w', S v' w' → wpList P ops Q rest (a.put o.dst v') w') : wpList P ops Q (o :: rest) a w := by
  obtain ⟨v', w', hr, hS⟩ := hr
  exact wpList_plain hgd fun _ hK => Lib.wp_append_run w s x t t ho vs vx hs hx v' w' hr (hK _ _ (h v' w' hS))
theorem at_w {P : Program} {ops : Array Oper} {o : Oper} {a : Act} {K : Act → World → Prop} {Q : Exit → Act → World → Prop} {E : Prop} (w : World) (h : if Region.wanted o (yielded ops a.tmps) = true then Oper.wp P o a w K Q else E) : if Region.wanted o (yielded ops a.tmps) = true then Oper.wp P o a w K Q else E := h
theorem addr_off (b off k : Nat) : (⟨b, off, none⟩ : Addr).add k = ⟨b, off + k, none⟩ := by simp [Addr.add]

theorem infoItem : (Try.prog.info? 50).map (fun i => (i.zero, i.size, i.bytes)) = some (some (.agg #[.int .i64 0, .int .i64 0, .int .i64 0, .int .i64 0]), 4, 32) := by kernel_rfl
theorem infoSince : (Try.prog.info? 54).map (fun i => (i.zero, i.size, i.bytes)) = some (some (.agg #[.int .i64 0, .int .i64 0]), 2, 16) := by kernel_rfl
/-- items that were copied -/
def ClnR (w : World) (I : List Im) (v : Value) (w' : World) : Prop := ∃ a cap, v = .slice a I.length cap ∧ ItA w' a I ∧ Below w.heap.size w w'
/-- an append of items to an empty row -/
theorem app_items (ty : TypeId) {w W : World} {g : Nat} {a : Option Addr} {I : List Im} {n cap : Nat} (hn : I.length = n) (h2 : n ≤ 1000) (hI : ItA W a I) (ha : a = none → cap = 0) (hb : Below w.heap.size w W) (hg : Has W g 50 #[]) (hgs : w.heap.size ≤ g) :
    ∃ v' w', (Builtin.append_ #[22, 22] ty #[.slice (some ⟨g, 0, none⟩) 0 0, .slice a n cap]).run Try.prog W = .ok v' w' ∧ ClnR w I v' w' ∧ W.grownBy w' (some g) := by
  obtain ⟨i, hi, hz0, hz1, hz2⟩ := info_parts infoItem
  have hown : W.ownsRow w.heap.size 50 4 (.slice (some ⟨g, 0, none⟩) 0 0) 0 [] := ⟨rfl, .inr ⟨g, 0, #[], rfl, hgs, hg, Nat.le_refl _, by unfold maxLen; omega, rfl, rfl⟩⟩
  cases a with
  | none =>
    have hI0 : I = [] := by
      rcases hI with h | ⟨b, o, e, _⟩
      · exact h
      · cases e
    subst hI0
    have hc := ha rfl
    subst hc
    obtain rfl : n = 0 := hn.symm
    refine ⟨.slice (some ⟨g, 0, none⟩) 0 0, W, ?_, ⟨_, _, rfl, .inl rfl, hb⟩, ⟨rfl, rfl, rfl, Nat.le_refl _, fun _ _ _ => rfl⟩⟩
    simp [Builtin.append_, run_underlying Try.underlying22, sizeOf, typeInfo, hi, Builtin.lenOf, Builtin.firstCells, loadCells, loadCellsFrom, storeCells]
  | some ad =>
    have hnews : ∀ (j : Nat) (u : Value), (I.flatMap Im.cells)[j]? = some u → W.cell? (ad.add j) = some u := fun j u hj => by
      have hI2 := hI
      rcases hI with h | ⟨b, o, e, _⟩
      · rw [h] at hj; simp at hj
      · obtain rfl : ad = ⟨b, o, none⟩ := Option.some.inj e
        rw [addr_off]; exact hI2.flat im_len j u hj
    obtain ⟨v', w5, hr, ho, hg5, _⟩ := run_append_own (P := Try.prog) W w.heap.size 22 ty 50 i _ 4 32 Try.underlying22 hi hz0 hz1 hz2 rfl (by decide) _ 0 [] hown ad n cap (I.flatMap Im.cells) (by rw [flat_len im_len, hn]) hnews (im_one I) (by unfold maxLen; omega) (by omega) hb.size
    rw [List.nil_append, Nat.zero_add] at ho
    obtain ⟨a', c', rfl⟩ := own_formb ho
    refine ⟨_, _, hr, ⟨a', c', by rw [hn], (own_rws im_len ho hn).1, hb.grown hg5 hb.size (fun j hj => by injection hj with hj; have hj : g = j := hj; omega)⟩, hg5⟩
set_option maxRecDepth 100000 in
set_option maxHeartbeats 2000000 in
theorem iclone_any (a : Option Addr) (n cap : Nat) (I : List Im) (w : World) (hn : I.length = n) (h2 : n ≤ 1000) (hI : ItA w a I) (ha : a = none → cap = 0) :
    Calls Try.prog 18 #[.slice a n cap] w fun e w' => ∃ v, e = .returned v ∧ ClnR w I v w' := by
  have en := Lib.run_eql_slice_nil (P := Try.prog) w 22 50 a n cap 0 0 Try.underlying22
  cases a with
  | none =>
    have hI0 : I = [] := by
      rcases hI with h | ⟨b, o, e, _⟩
      · exact h
      · cases e
    subst hI0
    obtain rfl : n = 0 := hn.symm
    clear hI ha hn
    go_enter Try.func18, Try.ntmps18
    go_wp2_with fail
    go_ret
    exact ⟨_, rfl, none, 0, rfl, .inl rfl, Below.refl _ _⟩
  | some ad =>
    obtain ⟨W1, hW1⟩ : ∃ W1, W1 = w.alloc (.cells #[] 50) := ⟨_, rfl⟩
    have hb1 : Below w.heap.size w W1 := by rw [hW1]; exact boxed _ _
    obtain ⟨v', w5, hr, hcl, _⟩ := app_items 22 hn h2 (hI.up hb1) ha hb1 (by rw [hW1]; exact Has.fresh _ _ _) (Nat.le_refl _)
    have HR := Lib.hid hr
    have HC := Lib.hid hcl
    have HW1 := Lib.hid hW1
    clear hI ha hn hb1 hr hcl hW1
    go_enter Try.func18, Try.ntmps18
    go_wp2_with (first | (rw [← HW1.out]; refine wpList_run rfl (.tmp 5) (.tmp 6) 22 rfl _ _ rfl rfl (S := fun u q => u = v' ∧ q = w5) ⟨v', w5, HR.out, rfl, rfl⟩ ?_; rintro u q ⟨rfl, rfl⟩) | fail)
    go_ret
    exact ⟨_, rfl, HC.out⟩

theorem Rws.take {α : Type} {c : α → List Value} {z : Nat} {w : World} {a : Option Addr} {l : List α} (h : Rws c z w a l) (k : Nat) : Rws c z w a (l.take k) := by
  rcases h with h | ⟨b, o, e, h⟩
  · exact .inl (by rw [h]; simp)
  · refine .inr ⟨b, o, e, fun i x hx j v hv => h i x ?_ j v hv⟩
    rw [List.getElem?_take] at hx
    split at hx
    · exact hx
    · cases hx
theorem Rws.drop {α : Type} {c : α → List Value} {z : Nat} {w : World} {b o : Nat} {l : List α} (h : Rws c z w (some ⟨b, o, none⟩) l) (k : Nat) : Rws c z w (some ⟨b, o + k * z, none⟩) (l.drop k) := by
  rcases h with h | ⟨b', o', e, h⟩
  · exact .inl (by rw [h]; simp)
  · injection e with e
    injection e with e1 e2
    subst e1; subst e2
    refine .inr ⟨_, _, rfl, fun i x hx j v hv => ?_⟩
    rw [List.getElem?_drop] at hx
    have := h _ x hx j v hv
    rw [Nat.add_mul, ← Nat.add_assoc] at this; exact this
/-- what put leaves -/
def PutR (w : World) (R : List (Int × Int)) (k : Nat) (d n : Int) (v : Value) (w' : World) : Prop := ∃ a cap, v = .slice a (R.length + 1) cap ∧ PrA w' a (R.take k ++ (d, n) :: R.drop k) ∧ R.length + 1 ≤ cap ∧ Below w.heap.size w w'
/-- both appends -/
theorem put_apps {w W : World} {b o cap m k : Nat} {R : List (Int × Int)} (d n : Int) (hm : R.length = m) (hk : k ≤ m) (hmx : m ≤ 1000) (hR : PrA W (some ⟨b, o, none⟩) R) (hb : Below w.heap.size w W) {y : Nat} (hy : Has W y 54 #[.int .i64 d, .int .i64 n])
    (ad : Addr) (had : k < m → ad = ⟨b, o + k * 2, none⟩) :
    ∃ A1 C1 w3 v2 w4, (Builtin.append_ #[55, 55] 55 #[.slice (some ⟨b, o, none⟩) k k, .slice (some ⟨y, 0, none⟩) 1 1]).run Try.prog W = .ok (.slice A1 (k + 1) C1) w3 ∧
      (Builtin.append_ #[55, 55] 55 #[.slice A1 (k + 1) C1, .slice (some ad) (m - k) (cap - k)]).run Try.prog w3 = .ok v2 w4 ∧ PutR w R k d n v2 w4 ∧ Below W.heap.size W w3 ∧ Below W.heap.size W w4 := by
  obtain ⟨i, hi, hz0, hz1, hz2⟩ := info_parts infoSince
  have htl : (R.take k).length = k := by rw [List.length_take]; omega
  obtain ⟨v1, w3, hr1, ho1, hg1⟩ := run_append_arg_grows (P := Try.prog) W 55 55 54 i _ 2 16 Try.underlying55 hi hz0 hz1 hz2 rfl (by decide) ⟨b, o, none⟩ k k ((R.take k).flatMap prC) (by rw [flat_len pr_len, htl])
    (fun j u hu => by rw [addr_off]; exact (hR.take k).flat pr_len j u hu) ⟨y, 0, none⟩ 1 1 (prC (d, n)) rfl (fun j u hu => by
      rw [addr_off, Nat.zero_add, hy.cell]
      exact (List.getElem?_toArray (xs := prC (d, n)) (i := j)).trans hu) (by omega) (by unfold maxLen; omega) (by omega)
  obtain ⟨A1, C1, rfl⟩ := own_formb ho1
  have hb3 : Below w.heap.size w w3 := hb.grown hg1 hb.size (fun j hj => by cases hj)
  have hR3 : PrA w3 (some ⟨b, o, none⟩) R := hR.up ⟨hg1.os, hg1.tape, hg1.output, hg1.size, fun k hk => hg1.block k hk (by simp)⟩
  have ho1' : w3.ownsRow w.heap.size 54 2 (.slice A1 (k + 1) C1) (k + 1) ((R.take k).flatMap prC ++ prC (d, n)) := by
    refine ⟨ho1.1, ?_⟩
    rcases ho1.2 with h2 | ⟨g, cp, cur, e5, h5, h6⟩
    · exact .inl h2
    · exact .inr ⟨g, cp, cur, e5, Nat.le_trans hb.size h5, h6⟩
  obtain ⟨v2, w4, hr2, ho2, hg2, _⟩ := run_append_own (P := Try.prog) w3 w.heap.size 55 55 54 i _ 2 16 Try.underlying55 hi hz0 hz1 hz2 rfl (by decide) _ (k + 1) _ ho1' ad (m - k) (cap - k) ((R.drop k).flatMap prC) (by rw [flat_len pr_len, List.length_drop, hm])
    (fun j u hu => by
      by_cases q : k < m
      · rw [had q, addr_off]; exact (hR3.drop k).flat pr_len j u hu
      · rw [List.drop_eq_nil_of_le (by omega)] at hu; simp at hu) (pr_one _) (by unfold maxLen; omega) (by omega) hb3.size
  have hfl : (R.take k).flatMap prC ++ prC (d, n) ++ (R.drop k).flatMap prC = (R.take k ++ (d, n) :: R.drop k).flatMap prC := by
    rw [List.flatMap_append, List.flatMap_cons, List.append_assoc]
  rw [hfl, show k + 1 + (m - k) = R.length + 1 by omega] at ho2
  obtain ⟨A2, C2, rfl⟩ := own_formb ho2
  obtain ⟨p1, p2⟩ := own_rws pr_len ho2 (by simp only [List.length_append, List.length_take, List.length_cons, List.length_drop]; omega)
  have hbw : Below W.heap.size W w3 := (Below.refl _ _).grown hg1 (Nat.le_refl _) (fun j hj => by cases hj)
  exact ⟨A1, C1, w3, _, w4, hr1, hr2, ⟨A2, C2, rfl, p1, p2, hb3.grown hg2 hb3.size (fun j hj => (World.ownsRow.lt ho1' j hj).1)⟩, hbw, hbw.grown hg2 hbw.size (fun j hj => (World.ownsRow.lt ho1 j hj).1)⟩
end Go.Proofs.Ytjmgncjadfhmcaa
