/- Rows of strings: copied, and one more; as they are run. -/
import Derived.Deep.RegionLaw
import Derived.Test.YtjffcgimdffkoaaGreatDoorJnSz
import Derived.Test.YtjffcgimdffkoaaGreatDoorQjC
namespace Go.Proofs.YtjffcgimdffkoaaGreatDoor
open Go.RowKit

section
variable {P : Program} {ops : Array Oper} {o : Oper} {a : Act} {w : World} {K : Act → World → Prop} {Q : Exit → Act → World → Prop} {E : Prop}
/-- an append in a region, by what it gives -/
theorem step_run (hgd : o.guard = none) (s x : Operand) (t : TypeId) (ho : o.op = .call { callee := .builtin .append, args := #[s, x], argTypes := #[t, t] }) (vs vx : Value) (hs : a.eval s = vs) (hx : a.eval x = vx)
    {S : Value → World → Prop} (hr : ∃ v' w', (Builtin.append_ #[t, t] o.type #[vs, vx]).run P w = .ok v' w' ∧ S v' w') (h : ∀ v' w', S v' w' → K (a.put o.dst v') w') :
    if Region.wanted o (yielded ops a.tmps) = true then Oper.wp P o a w K Q else E := by
  have hw : Region.wanted o (yielded ops a.tmps) = true := by simp [Region.wanted, hgd]
  rw [if_pos hw]
  obtain ⟨v', w', hr, hS⟩ := hr
  exact Lib.wp_append_run w s x t t ho vs vx hs hx v' w' hr (h v' w' hS)
end
theorem own_rw {w : World} {B n : Nat} {v : Value} {xs : List ByteArray} (h : w.ownsRow B 9 1 v n (xs.map Value.string)) (hl : xs.length = n) (hB : B < w.heap.size) : ∃ R, B ≤ R ∧ R < w.heap.size ∧ Rw w R v xs := by
  subst hl
  rcases h.2 with ⟨rfl, h0⟩ | ⟨g, c, cur, rfl, hb, hh, hc, hm, hs, ht⟩
  · exact ⟨B, Nat.le_refl _, hB, .inl ⟨rfl, List.eq_nil_of_length_eq_zero h0⟩⟩
  · have hH : Has w g 9 cur := hh
    refine ⟨g, hb, hH.lt, .inr ⟨0, c, cur, rfl, hH, by omega, hc, hm, fun j x e => ?_⟩⟩
    have hj : j < xs.length := by
      by_cases r : j < xs.length
      · exact r
      · rw [List.getElem?_eq_none (by omega)] at e; cases e
    rw [Nat.zero_add, ← Array.getElem?_toList, ← List.getElem?_take_of_lt (j := xs.length * 1) (by omega), ht, List.getElem?_map, e]
    rfl
/-- strings copied behind an empty row of one's own -/
def CopS (w : World) (g : Nat) (xs : List ByteArray) (v' : Value) (w' : World) : Prop := ∃ R, g ≤ R ∧ R < w'.heap.size ∧ Rw w' R v' xs ∧ Turn (fun k => k = g) w w'
theorem copy_any (ty : TypeId) (w : World) (g : Nat) (a : Option Addr) (c : Nat) (xs : List ByteArray) (hg : Has w g 9 #[]) (hX : StrA w a xs) (hN : xs.length ≤ 100000) (ha : a = none → c = 0) :
    ∃ v' w', (Builtin.append_ #[49, 49] ty #[.slice (some ⟨g, 0, none⟩) 0 0, .slice a xs.length c]).run Tryz.prog w = .ok v' w' ∧ CopS w g xs v' w' := by
  obtain ⟨i, hi, hz0, hz1, hz2⟩ := info_parts infoStr
  have hown : w.ownsRow g 9 1 (.slice (some ⟨g, 0, none⟩) 0 0) 0 [] := ⟨rfl, .inr ⟨g, 0, #[], rfl, Nat.le_refl _, hg, Nat.le_refl _, by unfold maxLen; omega, rfl, rfl⟩⟩
  cases a with
  | none =>
    have hc := ha rfl
    subst hc
    have hxs : xs = [] := by
      rcases hX with h | ⟨b, o, h, _⟩
      · exact h
      · cases h
    subst hxs
    refine ⟨_, _, run_append_owned_none w g 49 ty 9 i 1 Tryz.underlying49 hi _ 0 [] hown, g, Nat.le_refl _, hg.lt, .inr ⟨0, 0, #[], rfl, hg, by simp, by simp, by unfold maxLen; omega, fun j x e => by simp at e⟩, Turn.refl _ _⟩
  | some ad =>
    have hnews : ∀ (j : Nat) (u : Value), (xs.map Value.string)[j]? = some u → w.cell? (ad.add j) = some u := fun j u e => by
      rcases hX with rfl | ⟨b, o, h, hs⟩
      · simp at e
      · obtain rfl : ad = ⟨b, o, none⟩ := Option.some.inj h
        rw [addr_plus]
        rw [List.getElem?_map] at e
        cases hq : xs[j]? with
        | none => rw [hq] at e; cases e
        | some z => rw [hq] at e; cases e; exact hs j z hq
    obtain ⟨v', w', hr, ho, hgr, _⟩ := run_append_own (P := Tryz.prog) w g 49 ty 9 i _ 1 16 Tryz.underlying49 hi hz0 hz1 hz2 rfl (by decide) _ 0 [] hown ad xs.length c (xs.map Value.string) (by simp) hnews
      (fun u hu => by obtain ⟨z, _, rfl⟩ := List.mem_map.mp hu; rfl) (by unfold maxLen; omega) (by omega) (Nat.le_of_lt hg.lt)
    rw [List.nil_append, Nat.zero_add] at ho
    have hgw : g < w'.heap.size := Nat.lt_of_lt_of_le hg.lt hgr.size
    obtain ⟨R, h1, h2, h3⟩ := own_rw ho rfl hgw
    exact ⟨v', w', hr, R, h1, h2, h3, ⟨hgr.os, hgr.tape, hgr.output, hgr.size, fun k hk q => hgr.block k hk (fun e => q (Option.some.inj e))⟩⟩
/-- one more string behind a row -/
def MorS (w : World) (B R : Nat) (xs : List ByteArray) (v' : Value) (w' : World) : Prop := ∃ R', B ≤ R' ∧ R' < w'.heap.size ∧ Rw w' R' v' xs ∧ Turn (fun k => k = R) w w' ∧ ∃ a l c, v' = .slice a l c
theorem more_any (ty : TypeId) (w : World) (B R y : Nat) (v : Value) (xs : List ByteArray) (x : ByteArray) (h : Rw w R v xs) (hB : B ≤ R) (hBw : B ≤ w.heap.size) (hN : xs.length ≤ 100000) (hy : w.cell? ⟨y, 0, none⟩ = some (.string x)) :
    ∃ v' w', (Builtin.append_ #[49, 49] ty #[v, .slice (some ⟨y, 0, none⟩) 1 1]).run Tryz.prog w = .ok v' w' ∧ MorS w B R (xs ++ [x]) v' w' := by
  obtain ⟨R', v', w', hr, hR, hl, hrow, ht⟩ := h.app ty hN y x hy
  exact ⟨v', w', hr, R', by rcases hR with rfl | z <;> omega, hl, hrow, ht, hrow.slc⟩

theorem more_as (ty : TypeId) (w : World) (B R y : Nat) (v : Value) (xs xs' : List ByteArray) (x : ByteArray) (e : xs' = xs ++ [x]) (h : Rw w R v xs) (hB : B ≤ R) (hBw : B ≤ w.heap.size) (hN : xs.length ≤ 100000) (hy : w.cell? ⟨y, 0, none⟩ = some (.string x)) :
    ∃ v' w', (Builtin.append_ #[49, 49] ty #[v, .slice (some ⟨y, 0, none⟩) 1 1]).run Tryz.prog w = .ok v' w' ∧ MorS w B R xs' v' w' := by
  subst e
  exact more_any ty w B R y v xs x h hB hBw hN hy
theorem y_two {W w5 : World} {x : ByteArray} (t : Turn (fun k => k = W.heap.size) ((W.alloc (.cells #[] 9)).alloc (.cells #[.string x] 9)).drew w5) : w5.cell? ⟨W.heap.size + 1, 0, none⟩ = some (.string x) := by
  have h := Has.fresh (W.alloc (.cells #[] 9)) 9 #[.string x]
  rw [show (W.alloc (.cells #[] 9)).heap.size = W.heap.size + 1 by simp] at h
  exact (t.has h.drew1 (fun z => by omega)).cell 0
theorem y_three {W w5 : World} {x : ByteArray} (t : Turn (fun k => k = W.heap.size + 1) ((W.alloc (.cells #[.string x] 9)).alloc (.cells #[] 9)).drew w5) : w5.cell? ⟨W.heap.size, 0, none⟩ = some (.string x) := by
  have h := (Has.fresh W 9 #[.string x]).more (.cells #[] 9)
  exact (t.has h.drew1 (fun z => by omega)).cell 0
theorem row_three (W : World) (x : ByteArray) : Has ((W.alloc (.cells #[.string x] 9)).alloc (.cells #[] 9)).drew (W.heap.size + 1) 9 #[] := by
  have h := Has.fresh (W.alloc (.cells #[.string x] 9)) 9 #[]
  rw [show (W.alloc (.cells #[.string x] 9)).heap.size = W.heap.size + 1 by simp] at h
  exact h
theorem bel1 (W : World) (o : Obj) : Below W.heap.size W (W.alloc o).drew := blw (boxed _ _) 1
theorem bel2 (W : World) (o o' : Obj) : Below W.heap.size W ((W.alloc o).alloc o').drew := blw ((boxed _ _).alloc (by simp) _) 1
theorem Rw.form {w : World} {R : Nat} {v : Value} {xs : List ByteArray} (h : Rw w R v xs) : ∃ a c, v = .slice a xs.length c ∧ StrA w a xs ∧ (a = none → c = 0) ∧ xs.length ≤ c := by
  rcases h with ⟨rfl, rfl⟩ | ⟨o, c, cs, rfl, hR, hf, hc, hm, hx⟩
  · exact ⟨none, 0, rfl, .inl rfl, fun _ => rfl, by simp⟩
  · refine ⟨_, c, rfl, .inr ⟨R, o, rfl, fun j x e => ?_⟩, (fun z => by cases z), hc⟩
    rw [hR.cell]; exact hx j x e
end Go.Proofs.YtjffcgimdffkoaaGreatDoor

namespace Go.Proofs.YtjffcgimdffkoaaGreatDoor
open Go.RowKit

/-- the reference's journal in memory -/
structure Jr (w : World) (K R q r : Nat) (v : Value) (s : SS) (j : JS) : Prop where
  head : Has w K 69 (rcs q j.half j.next v j.br)
  recs : Rw w R v (j.L.map str)
  rt : Rt w q r s
  ne : R ≠ K ∧ R ≠ q ∧ R ≠ r
  lt : R < w.heap.size
/-- a journal as it may be, perhaps without a text -/
structure Okr (n : Nat) (j : JS) : Prop where
  half : j.half ≤ 1
  lo : frm n j.half ≤ j.next
  hi : j.next ≤ til n j.half
  len : j.L.length ≤ 100000
theorem Ok.okr {n : Nat} {j : JS} (h : Ok n j) (hn : n ≤ 4096) : Okr n j := ⟨h.half, by have := h.lo; omega, h.hi, by have := h.len hn; omega⟩
theorem Jr.up {w w' : World} {K R q r : Nat} {v : Value} {s : SS} {j : JS} (h : Jr w K R q r v s j) (k : Below w.heap.size w w') : Jr w' K R q r v s j :=
  ⟨h.head.up k, h.recs.up k, h.rt.up k, h.ne, Nat.lt_of_lt_of_le h.lt k.size⟩
theorem Jr.drewN {w : World} {K R q r : Nat} {v : Value} {s : SS} {j : JS} (h : Jr w K R q r v s j) (n : Nat) : Jr (w.drewN n) K R q r v s j := h.up ⟨rfl, rfl, rfl, Nat.le_refl _, fun _ _ => rfl⟩
theorem Rt.drewN {w : World} {q r : Nat} {s : SS} (h : Rt w q r s) (n : Nat) : Rt (w.drewN n) q r s := h.up ⟨rfl, rfl, rfl, Nat.le_refl _, fun _ _ => rfl⟩
/-- behind a call -/
def RJoD (w : World) (K R q r : Nat) (S : SS × JS × Int) (e : Ending) (w' : World) : Prop :=
  e = .returned (.int .i64 S.2.2) ∧ (∃ R' v', (R' = R ∨ w.heap.size ≤ R') ∧ Jr w' K R' q r v' S.1 S.2.1) ∧ Turn (fun k => k = K ∨ k = q ∨ k = r) w w'

set_option maxRecDepth 100000 in
set_option maxHeartbeats 2000000 in
theorem rroom_any (w : World) (K R q r : Nat) (v : Value) (s : SS) (j : JS) (H : Jr w K R q r v s j) (ok : Okr s.n j) (h3 : 3 ≤ s.n) (hn : s.n ≤ 4096) :
    Calls Tryz.prog 44 #[.pointer (some ⟨K, 0, none⟩)] w fun e w' => e = .returned (.int .i64 ((til s.n j.half : Int) - (j.next : Int))) ∧ ∃ z, w' = w.drewN z := by
  obtain ⟨h, hh⟩ : ∃ h, h = j.half := ⟨_, rfl⟩
  obtain ⟨nx, hx⟩ : ∃ nx, nx = j.next := ⟨_, rfl⟩
  obtain ⟨F, hF⟩ : ∃ F, F = frm s.n h := ⟨_, rfl⟩
  obtain ⟨T, hT⟩ : ∃ T, T = til s.n h := ⟨_, rfl⟩
  have HS : Hid (∀ n, Calls Tryz.prog 31 #[.pointer (some ⟨q, 0, none⟩), .int .i64 (h : Int)] (w.drewN n) fun e w' => e = .returned (.tuple #[.int .i64 (F : Int), .int .i64 (T : Int)]) ∧ w.drewN n = w') := fun n => by
    rw [hF, hT]; exact span_any (w.drewN n) q r h s (H.rt.drewN n) (by rw [hh]; exact ok.half) h3 hn
  have c0 : w.cell? ⟨K, 0, none⟩ = some (.pointer (some ⟨q, 0, none⟩)) := H.head.cell 0
  have c1 : w.cell? ⟨K, 1, none⟩ = some (.int .i64 (h : Int)) := by rw [hh]; exact H.head.cell 1
  have c2 : w.cell? ⟨K, 2, none⟩ = some (.int .i64 (nx : Int)) := by rw [hx]; exact H.head.cell 2
  have b1 : T ≤ 10000 := by rw [hT, hh]; have := ok.half; have := hlf_le hn; have : j.half = 0 ∨ j.half = 1 := by omega
                            rcases this with z | z <;> rw [z] <;> unfold til frm <;> omega
  have b2 : nx ≤ T := by rw [hx, hT, hh]; exact ok.hi
  rw [← hh, ← hx, ← hT]
  clear H ok h3 hn hh hx hF hT
  go_enter Tryz.func44, Tryz.ntmps44
  go_wp2_with fail
  go_quiet ((go_at_call 31; with_reducible exact quiet_left (HS.out _)))
  go_wp2
  go_ret
  exact ⟨rfl, _, rfl⟩

/-- lay where there is no room -/
theorem jlay_full (w : World) (K a e_ : Nat) (x : ByteArray) (hx : x.size ≤ maxLen) (ha : a ≤ 10000) (he : e_ ≤ 10000) (hf : 40000 < x.size ∨ e_ < a + nb x.size) :
    Calls Tryz.prog 37 #[.pointer (some ⟨K, 0, none⟩), .string x, .int .i64 (a : Int), .int .i64 (e_ : Int)] w fun e w' => e = .returned (.tuple #[.int .i64 0, .int .i64 4]) ∧ Below w.heap.size w w' := by
  by_cases h4 : 40000 < x.size
  · have HC := Lib.hid (rlay_full x false w h4 hx)
    clear hf h4
    go_enter Tryz.func37, Tryz.ntmps37
    go_wp2_with fail
    refine HC.out.mono ?_
    rintro e w1 ⟨rfl, rfl⟩
    go_wp2_with fail
    go_ret2
    exact ⟨rfl, Below.refl _ _⟩
  · have HC := Lib.hid (rlay_any x false w (by omega))
    have hf' := hf.resolve_left h4
    obtain ⟨n, hn⟩ : ∃ n, n = nb x.size := ⟨_, rfl⟩
    have n1 : n ≤ 626 := by rw [hn]; exact nb_le (by omega)
    have n0 : 0 < n := by rw [hn]; exact nb_pos _
    rw [← hn] at HC hf'
    have hw1 : IntKind.i64.wrap ((a : Int) + (n : Int)) = (a : Int) + (n : Int) := IntWalk.i64_in _ (by omega)
    have hge : (e_ : Int) < (a : Int) + (n : Int) := by omega
    clear hf h4 hn hf'
    go_enter Tryz.func37, Tryz.ntmps37
    go_wp2_with fail
    refine HC.out.mono ?_
    rintro e w1 ⟨v1, rfl, hown, hb1⟩
    obtain ⟨g, c, rfl, hnc, hBg, hS⟩ := own_strs hown n0
    have HB := Lib.hid hb1
    clear hown hnc hBg hS hb1 HC
    go_wp2_with fail
    go_ret2
    exact ⟨rfl, HB.out⟩
end Go.Proofs.YtjffcgimdffkoaaGreatDoor
