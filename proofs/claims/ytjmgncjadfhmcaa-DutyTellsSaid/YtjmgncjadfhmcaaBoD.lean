/- Contracts: Part and Rest. -/
import Derived.Test.YtjmgncjadfhmcaaG
import Derived.Test.YtjmgncjadfhmcaaM
namespace Go.Proofs.Ytjmgncjadfhmcaa
open Go.RowKit

theorem mul_bd {a p : Int} (a1 : -9223372036854775808 ≤ a) (a2 : a ≤ 9223372036854775807) (p1 : 0 ≤ p) (p2 : p ≤ 9223372036854775807) :
    -85070591730234615865843651857942052864 ≤ a * p ∧ a * p ≤ 85070591730234615865843651857942052864 := by
  constructor
  · have h1 : -9223372036854775808 * p ≤ a * p := Int.mul_le_mul_of_nonneg_right a1 p1
    omega
  · have h1 : a * p ≤ 9223372036854775807 * p := Int.mul_le_mul_of_nonneg_right a2 p1
    omega
theorem part_ok {a p m : Int} (a1 : -9223372036854775808 ≤ a) (a2 : a ≤ 9223372036854775807) (p1 : 0 ≤ p) (p2 : p ≤ 9223372036854775807) (hm : 1 ≤ m) : wideOk (a * p / m) := by
  have h := mul_bd a1 a2 p1 p2
  have d := div_bd (x := a * p) (B := 85070591730234615865843651857942052864) hm (by omega) h.1 h.2
  unfold wideOk; omega

theorem field0 (x y z : Value) (w : World) : (Instr.field 98 (.agg #[x, y, z]) 0).run Try.prog w = .ok (.agg #[x, y]) w := by kernel_rfl
theorem field1 (x y z : Int) (w : World) : (Instr.field 98 (.agg #[.int .u64 x, .int .u64 y, .int .u64 z]) 1).run Try.prog w = .ok (.int .u64 z) w := by kernel_rfl

set_option maxHeartbeats 400000 in
theorem part_any (a part m : Int) (w : World) (a1 : -9223372036854775808 ≤ a) (a2 : a ≤ 9223372036854775807) (p1 : 0 ≤ part) (p2 : part ≤ 9223372036854775807) (hm : 1 ≤ m) (hm2 : m ≤ 9223372036854775807) :
    Calls Try.prog 30 #[.int .i64 a, .int .i64 part, .int .i64 m] w fun e w' => e = .returned (.tuple #[.int .i64 (tellV (a * part / m)), .int .i64 (tellE (a * part / m))]) ∧ Below w.heap.size w w' := by
  have HO := Lib.hid (part_ok a1 a2 p1 p2 hm)
  have hf := field0 (.int .u64 (hiW (a * part / m))) (.int .u64 (loW (a * part / m))) (.int .u64 (a * part % m))
  have d1 : decide (m < 1) = false := by simp; omega
  have d2 : decide (part < 0) = false := by simp; omega
  go_enter Try.func30, Try.ntmps30
  go_wp2_with fail
  refine (times_any a part m _ a1 a2 p1 p2 hm hm2).mono ?_
  rintro e w1 ⟨rfl, hb1⟩
  go_wp2_with fail
  refine (narrow_any (a * part / m) _ HO.out).mono ?_
  rintro e w2 ⟨rfl, hb2⟩
  go_wp2_with fail
  go_ret2
  have s1 := hb1.size
  exact ⟨rfl, hb1.trans (hb2.mono (by omega))⟩

set_option maxHeartbeats 400000 in
theorem part_no (a part m : Int) (w : World) (h : m < 1 ∨ part < 0) :
    Calls Try.prog 30 #[.int .i64 a, .int .i64 part, .int .i64 m] w fun e w' => e = .returned (.tuple #[.int .i64 0, .int .i64 1]) ∧ w = w' := by
  by_cases d1 : m < 1
  · have e1 : decide (m < 1) = true := by simp; omega
    go_enter Try.func30, Try.ntmps30
    go_wp2_with fail
    go_ret2
    exact ⟨rfl, rfl⟩
  · have e1 : decide (m < 1) = false := by simp; omega
    have e2 : decide (part < 0) = true := by simp; omega
    clear h
    go_enter Try.func30, Try.ntmps30
    go_wp2_with fail
    go_ret2
    exact ⟨rfl, rfl⟩

theorem wrap_i {n : Int} (h0 : -9223372036854775808 ≤ n) (h1 : n < 9223372036854775808) : IntKind.i64.wrap n = n := by
  rw [wrap_sgn, sgn]; omega

end Go.Proofs.Ytjmgncjadfhmcaa

namespace Go.Proofs.Ytjmgncjadfhmcaa
open Go.RowKit

section
variable {w : World} {p r : Nat} {S : Bs}
def PriR (w : World) (S : Bs) (i d : Int) (e : Ending) (w' : World) : Prop := e = .returned (.tuple #[.int .i64 (priV S i d), .int .i64 (priE S i d)]) ∧ Below w.heap.size w w'
set_option maxRecDepth 100000 in
set_option maxHeartbeats 4000000 in
theorem price_any (i d : Int) (h : Bk w p r S) : Calls Try.prog 29 #[.pointer (some ⟨p, 0, none⟩), .int .i64 i, .int .i64 d] w (PriR w S i d) := by
  have hF := h.fine
  have HH := Lib.hid (bhas_any i h)
  unfold PriR priV
  cases h1 : hasB S i with
  | false =>
    have hE : priE S i d = 5 := by unfold priE; rw [if_pos h1]
    rw [h1] at HH
    rw [hE, if_neg (by omega)]
    clear h h1 hE hF
    go_enter Try.func29, Try.ntmps29
    go_wp2_with fail
    refine HH.out.mono ?_
    rintro e w1 ⟨rfl, rfl⟩
    go_wp2_with fail
    go_ret2
    exact ⟨rfl, Below.refl _ _⟩
  | true =>
    rw [h1] at HH
    by_cases h2 : d < 0
    · have hE : priE S i d = 1 := by unfold priE; rw [if_neg (by rw [h1]; simp), if_pos h2]
      rw [hE, if_neg (by omega)]
      clear h h1 hE hF
      go_enter Try.func29, Try.ntmps29
      go_wp2_with fail
      refine HH.out.mono ?_
      rintro e w1 ⟨rfl, rfl⟩
      go_wp2_with fail
      go_ret2
      exact ⟨rfl, Below.refl _ _⟩
    · have hE : priE S i d = 0 := by unfold priE; rw [if_neg (by rw [h1]; simp), if_neg h2]
      rw [hE, if_pos rfl]
      have hI := hasB_iff.1 h1
      obtain ⟨g, rfl⟩ : ∃ g : Nat, i = g := ⟨i.toNat, by omega⟩
      have hg : g < S.I.length := by omega
      have hfew := hF.few
      obtain ⟨qa, qc, X, hx⟩ := h
      have c1 := hx.c1
      obtain ⟨x, hX, c2⟩ := hx.row hg
      obtain ⟨hP, hcap, hRow⟩ := hx.ok g x hX
      have hrl := hRow.len
      have hmost := hF.most g
      obtain ⟨b, o, ha⟩ : ∃ b o, x.a = some ⟨b, o, none⟩ := by
        rcases hP with z | ⟨b, o, z, _⟩
        · rw [z] at hrl; simp at hrl; omega
        · exact ⟨b, o, z⟩
      rw [ha] at hP c2
      obtain ⟨m, hm⟩ : ∃ m, m = x.R.length := ⟨_, rfl⟩
      have HBeh := Lib.hid (behind_any d x.R (some ⟨b, o, none⟩) x.cap w (by omega) (by omega) hP hRow.asc)
      have HP := Lib.hid hP
      have HR := Lib.hid hRow
      have HM := Lib.hid hm
      rw [← hm] at HBeh hcap c2 hrl
      have hm1 : 1 ≤ m := by omega
      have hm2 : m ≤ 101 := by omega
      clear hx hX hP hRow hm hF ha h1 hI hrl hmost hE
      go_enter Try.func29, Try.ntmps29
      go_wp2_with fail
      refine HH.out.mono ?_
      rintro e w1 ⟨rfl, rfl⟩
      go_wp2_with fail
      refine HBeh.out.mono ?_
      rintro e w2 ⟨k, hk, rfl, hb⟩
      have hk1 := HR.out.pos (d := d) (by omega) hk
      have hkm : k ≤ m := by rw [HM.out]; exact hk.le
      obtain ⟨j, rfl⟩ : ∃ j, k = j + 1 := ⟨k - 1, by omega⟩
      obtain ⟨en, hen⟩ : ∃ en, x.R[j]? = some en := ⟨x.R[j]'(by rw [← HM.out]; omega), List.getElem?_eq_getElem _⟩
      have hbest := HR.out.best (d := d) (by omega) hk (e := en) (by simpa using hen)
      have d0 := kcell hb (pra_at HP.out hen).2
      have HB := Lib.hid hb
      have HBest := Lib.hid hbest
      clear hk hb hen c1 c2 hbest
      rw [show ((j + 1 : Nat) : Int) = (j : Int) + 1 by omega]
      have e1 : (j : Int) + 1 - 1 = (j : Int) := by omega
      go_wp2_with fail
      go_ret2
      exact ⟨by rw [HBest.out]; rfl, HB.out⟩

/-- an item as it is told -/
def itV (S : Bs) (i : Int) : Im := if hasB S i = true then (S.I[i.toNat]?).getD ⟨0, 0, 0, 0⟩ else ⟨0, 0, 0, 0⟩
def ItmR (w : World) (S : Bs) (i : Int) (e : Ending) (w' : World) : Prop := e = .returned (.tuple #[(itV S i).val, .bool (hasB S i)]) ∧ Below w.heap.size w w'
set_option maxRecDepth 100000 in
set_option maxHeartbeats 4000000 in
theorem item_any (i : Int) (h : Bk w p r S) : Calls Try.prog 40 #[.pointer (some ⟨p, 0, none⟩), .int .i64 i] w (ItmR w S i) := by
  have HH := Lib.hid (fun (W : World) (hb : Below w.heap.size w W) => bhas_any i (h.up hb))
  unfold ItmR itV Im.val
  cases h1 : hasB S i with
  | false =>
    rw [h1] at HH
    rw [if_neg (by simp)]
    clear h h1
    go_enter Try.func40, Try.ntmps40
    go_wp2_with fail
    refine (HH.out _ (boxed _ _)).mono ?_
    rintro e w1 ⟨rfl, rfl⟩
    go_wp2_with fail
    exact bodyPost_ret (v := .tuple #[.agg #[.int .i64 0, .int .i64 0, .int .i64 0, .int .i64 0], .bool false]) (by simp [results, Try.results40, go_sem]) rfl ⟨rfl, boxed _ _⟩
  | true =>
    rw [h1] at HH
    rw [if_pos rfl]
    have hI := hasB_iff.1 h1
    obtain ⟨g, rfl⟩ : ∃ g : Nat, i = g := ⟨i.toNat, by omega⟩
    have hg : g < S.I.length := by omega
    obtain ⟨qa, qc, X, hx⟩ := h
    have c0 := hx.c0
    obtain ⟨y, hy⟩ : ∃ y, S.I[g]? = some y := ⟨S.I[g], List.getElem?_eq_getElem _⟩
    obtain ⟨b, o, ha, hc⟩ : ∃ b o, qa = some ⟨b, o, none⟩ ∧ ∀ i x, S.I[i]? = some x → ∀ j v, (Im.cells x)[j]? = some v → w.cell? ⟨b, o + i * 4 + j, none⟩ = some v := by
      rcases hx.items with z | z
      · rw [z] at hg; simp at hg
      · exact z
    subst ha
    have k0 : w.cell? ⟨b, o + g * 4, none⟩ = some (.int .i64 y.tag) := hc g y hy 0 _ rfl
    have k1 : w.cell? ⟨b, o + g * 4 + 1, none⟩ = some (.int .i64 y.grp) := hc g y hy 1 _ rfl
    have k2 : w.cell? ⟨b, o + g * 4 + 2, none⟩ = some (.int .i64 y.met) := hc g y hy 2 _ rfl
    have k3 : w.cell? ⟨b, o + g * 4 + 3, none⟩ = some (.int .i64 y.pri) := hc g y hy 3 _ rfl
    rw [show ((g : Int).toNat) = g by omega, hy, Option.getD_some]
    have hbx : Below w.heap.size w (w.alloc (.cells #[.int .i64 0, .int .i64 0, .int .i64 0, .int .i64 0] 50)) := boxed _ _
    have q0 := kcell hbx c0
    have q1 := kcell hbx k0
    have q2 := kcell hbx k1
    have q3 := kcell hbx k2
    have q4 := kcell hbx k3
    clear hx h1 hI hc hy c0 k0 k1 k2 k3 hbx
    go_enter Try.func40, Try.ntmps40
    go_wp2_with fail
    refine (HH.out _ (boxed _ _)).mono ?_
    rintro e w1 ⟨rfl, rfl⟩
    go_wp2_with fail
    exact bodyPost_ret (v := .tuple #[.agg #[.int .i64 y.tag, .int .i64 y.grp, .int .i64 y.met, .int .i64 y.pri], .bool true]) (by simp [results, Try.results40, go_sem]) rfl ⟨rfl, boxed _ _⟩
end
end Go.Proofs.Ytjmgncjadfhmcaa
