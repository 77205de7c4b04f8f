/- A number within bounds. -/
import Derived.Test.YtobdcogaphkogaaB
import Derived.Test.YtobdcogaphkogaaDnD
namespace Go.Proofs.Ytobdcogaphkogaa
open Go.RowKit
def clampV (n a b : Int) : Int := if n < a then a else if b < n then b else n

set_option maxHeartbeats 400000 in
theorem clamp_any (n a b : Int) (w : World) :
    Calls Try.prog 50 #[.int .i64 n, .int .i64 a, .int .i64 b] w fun e w' =>
      e = .returned (.int .i64 (clampV n a b)) ∧ w = w' := by
  by_cases h : n < a
  · have e : clampV n a b = a := by simp [clampV, h]
    rw [e]; clear e
    go_enter Try.func50, Try.ntmps50
    go_wp2
    go_ret
    exact ⟨rfl, rfl⟩
  · by_cases g : b < n
    · have e : clampV n a b = b := by simp [clampV, h, g]
      rw [e]; clear e
      go_enter Try.func50, Try.ntmps50
      go_wp2
      go_ret
      exact ⟨rfl, rfl⟩
    · have e : clampV n a b = n := by simp [clampV, h, g]
      rw [e]; clear e
      go_enter Try.func50, Try.ntmps50
      go_wp2
      go_ret
      exact ⟨rfl, rfl⟩
end Go.Proofs.Ytobdcogaphkogaa

namespace Go.Proofs.Ytobdcogaphkogaa
open Go.RowKit

section
variable {w : World} {B p : Nat} {d : Dt} {E : List Tl} {la : Option Addr} {lc : Nat} {tv : Value}
/-- what Through answers -/
def ThrR (w : World) (d : Dt) (E : List Tl) (day : Int) (e : Ending) (w' : World) : Prop := e = .returned (.tuple #[.int .i64 (thrV d E day), .int .i64 (thrW d)]) ∧ Below w.heap.size w w'
set_option maxRecDepth 100000 in
set_option maxHeartbeats 4000000 in
theorem thr_mile (h : TgX w B p d E la lc tv) (day : Int) (m2 : d.me = 2) : Calls Try.prog 34 #[.pointer (some ⟨p, 0, none⟩), .int .i64 day] w (ThrR w d E day) := by
  unfold ThrR thrV thrW
  rw [if_pos m2, if_pos m2]
  have c3 := h.has.cell 3
  have c4 := h.has.cell 4
  have c5 := h.has.cell 5
  simp at c3 c4 c5
  rw [m2] at c3
  have HG := Lib.hid (fun (W : World) (q : Below w.heap.size w W) => great_any (h.up q) day)
  generalize d.fi = fi at c4
  generalize d.la = la at c5
  clear h m2
  go_enter Try.func34, Try.ntmps34
  go_wp2_with fail
  go_quiet (fail)
  go_wp2_with fail
  refine (HG.out _ (blw (Below.refl _ _) _)).mono ?_
  rintro e w1 ⟨rfl, hb⟩
  have HB := Lib.hid (up2 (blw (Below.refl _ _) _) hb)
  clear hb c3 c4 c5
  go_wp2_with fail
  go_ret2
  exact ⟨rfl, HB.out⟩
set_option maxRecDepth 100000 in
set_option maxHeartbeats 4000000 in
theorem thr_usage (h : TgX w B p d E la lc tv) (day : Int) (m3 : d.me = 3) : Calls Try.prog 34 #[.pointer (some ⟨p, 0, none⟩), .int .i64 day] w (ThrR w d E day) := by
  have hv : thrV d E day = min (thrS day E) d.un := by unfold thrV; rw [if_neg (by omega), if_pos m3]
  have hw : thrW d = d.un := by unfold thrW; rw [if_neg (by omega), if_pos m3]
  unfold ThrR
  rw [hv, hw]
  clear hv hw
  have c2 := h.has.cell 2
  have c3 := h.has.cell 3
  have c4 := h.has.cell 4
  have c5 := h.has.cell 5
  simp at c2 c3 c4 c5
  rw [m3] at c3
  have HG := Lib.hid (fun (W : World) (q : Below w.heap.size w W) => tog_any (h.up q) day)
  generalize d.fi = fi at c4
  generalize d.la = la at c5
  generalize d.un = un at c2
  generalize thrS day E = s at HG
  have HC := Lib.hid c2
  clear h m3 c2
  go_enter Try.func34, Try.ntmps34
  go_wp2_with fail
  go_quiet (fail)
  go_wp2_with fail
  obtain ⟨W0, hW0⟩ : ∃ W0, W0 = w.drewN nq := ⟨_, rfl⟩
  have HB0 : Hid (Below w.heap.size w W0) := by rw [hW0]; exact Lib.hid (blw (Below.refl _ _) _)
  rw [← hW0]
  have d2 : W0.cell? ⟨p, 2, none⟩ = some (.int .i64 un) := kcell HB0.out HC.out
  have HCall := Lib.hid (HG.out W0.drew HB0.out.drew)
  clear hW0 c3 c4 c5
  have K0 : Hid (W0.drew.cell? ⟨p, 2, none⟩ = some (.int .i64 un)) := d2
  go_region_held3 (fun w' => w'.cell? ⟨p, 2, none⟩ = some (.int .i64 un))
    (first | (go_keep; done) | (with_reducible exact K0.out) | (with_reducible exact kK1.out))
    (first | (go_at_call 49; (with_reducible refine (HCall.out).mono ?_); rintro e w2 ⟨rfl, hb2⟩; have kK1 : Hid (w2.cell? ⟨p, 2, none⟩ = some (.int .i64 un)) := kcell hb2 K0.out; have kB2 := Lib.hid (up2 HB0.out.drew hb2); clear hb2))
  all_goals
    go_wp2_with fail
    go_ret2
    exact ⟨rfl, kB2.out⟩
theorem clamp_is {day fi la : Int} (h : fi ≤ la) : clampV day (fi - 1) la - (fi - 1) = if day < fi then 0 else if la < day then la - fi + 1 else day - fi + 1 := by
  unfold clampV
  split <;> split <;> (try split) <;> omega
set_option maxRecDepth 100000 in
set_option maxHeartbeats 4000000 in
theorem thr_ratable (h : TgX w B p d E la lc tv) (day : Int) (m0 : d.me = 0) : Calls Try.prog 34 #[.pointer (some ⟨p, 0, none⟩), .int .i64 day] w (ThrR w d E day) := by
  have hd := dtB_iff.1 h.fine.may
  have hv : thrV d E day = clampV day (d.fi - 1) d.la - (d.fi - 1) := by unfold thrV; rw [if_neg (by omega), if_neg (by omega), if_neg (by omega), clamp_is hd.2.2.2.2.2]
  have hw : thrW d = d.la - (d.fi - 1) := by unfold thrW; rw [if_neg (by omega), if_neg (by omega), if_neg (by omega)]; omega
  unfold ThrR
  rw [hv, hw]
  have c3 := h.has.cell 3
  have c4 := h.has.cell 4
  have c5 := h.has.cell 5
  simp at c3 c4 c5
  rw [m0] at c3
  generalize d.fi = fi at c4 hd
  generalize d.la = la at c5 hd
  have e1 : IntKind.i64.wrap (fi - 1) = fi - 1 := IntWalk.i64_in _ (by omega)
  have e2 : IntKind.i64.wrap (la - (fi - 1)) = la - (fi - 1) := IntWalk.i64_in _ (by omega)
  have hc := clamp_is (day := day) hd.2.2.2.2.2
  have hc2 : 0 ≤ clampV day (fi - 1) la - (fi - 1) ∧ clampV day (fi - 1) la - (fi - 1) ≤ 1000000 := by rw [hc]; split <;> (try split) <;> omega
  have HCl := Lib.hid (fun (W : World) => clamp_any day (fi - 1) la W)
  generalize clampV day (fi - 1) la = cv at HCl hc2
  have e3 : IntKind.i64.wrap (cv - (fi - 1)) = cv - (fi - 1) := IntWalk.i64_in _ (by omega)
  clear h m0 hv hw hc hc2 hd
  go_enter Try.func34, Try.ntmps34
  go_wp2_with fail
  go_quiet (fail)
  go_wp2_with fail
  refine (HCl.out _).mono ?_
  rintro e w1 ⟨rfl, rfl⟩
  go_wp2_with fail
  go_ret2
  exact ⟨rfl, blw (Below.refl _ _) _⟩
set_option maxRecDepth 100000 in
set_option maxHeartbeats 4000000 in
theorem thr_point (h : TgX w B p d E la lc tv) (day : Int) (m1 : d.me = 1) : Calls Try.prog 34 #[.pointer (some ⟨p, 0, none⟩), .int .i64 day] w (ThrR w d E day) := by
  have hd := dtB_iff.1 h.fine.may
  have hv : thrV d E day = clampV day (d.fi - 1) d.fi - (d.fi - 1) := by
    unfold thrV; rw [if_neg (by omega), if_neg (by omega), if_pos m1, clamp_is (Int.le_refl _)]
    split
    · rfl
    · split <;> omega
  have hw : thrW d = d.fi - (d.fi - 1) := by unfold thrW; rw [if_neg (by omega), if_neg (by omega), if_pos m1]; omega
  unfold ThrR
  rw [hv, hw]
  have c3 := h.has.cell 3
  have c4 := h.has.cell 4
  have c5 := h.has.cell 5
  simp at c3 c4 c5
  rw [m1] at c3
  generalize d.fi = fi at c4 hd
  generalize d.la = la at c5 hd
  have e1 : IntKind.i64.wrap (fi - 1) = fi - 1 := IntWalk.i64_in _ (by omega)
  have e2 : IntKind.i64.wrap (fi - (fi - 1)) = fi - (fi - 1) := IntWalk.i64_in _ (by omega)
  have hc := clamp_is (day := day) (Int.le_refl fi)
  have hc2 : 0 ≤ clampV day (fi - 1) fi - (fi - 1) ∧ clampV day (fi - 1) fi - (fi - 1) ≤ 1000000 := by rw [hc]; split <;> (try split) <;> omega
  have HCl := Lib.hid (fun (W : World) => clamp_any day (fi - 1) fi W)
  generalize clampV day (fi - 1) fi = cv at HCl hc2
  have e3 : IntKind.i64.wrap (cv - (fi - 1)) = cv - (fi - 1) := IntWalk.i64_in _ (by omega)
  clear h m1 hv hw hc hc2 hd
  go_enter Try.func34, Try.ntmps34
  go_wp2_with fail
  go_quiet (fail)
  go_wp2_with fail
  refine (HCl.out _).mono ?_
  rintro e w1 ⟨rfl, rfl⟩
  go_wp2_with fail
  go_ret2
  exact ⟨rfl, blw (Below.refl _ _) _⟩
theorem thr_any (h : TgX w B p d E la lc tv) (day : Int) : Calls Try.prog 34 #[.pointer (some ⟨p, 0, none⟩), .int .i64 day] w (ThrR w d E day) := by
  have hd := dtB_iff.1 h.fine.may
  by_cases m2 : d.me = 2
  · exact thr_mile h day m2
  · by_cases m3 : d.me = 3
    · exact thr_usage h day m3
    · by_cases m1 : d.me = 1
      · exact thr_point h day m1
      · exact thr_ratable h day (by omega)
end
end Go.Proofs.Ytobdcogaphkogaa
