/- check, Tell. -/
import Derived.Maps.AppendAt
import Derived.Test.YtobdcogaphkogaaDnB
namespace Go.Proofs.Ytobdcogaphkogaa
open Go.RowKit

section
variable {w : World} {B p : Nat} {d : Dt} {E : List Tl} {la : Option Addr} {lc : Nat} {tv : Value}
/-- what check answers -/
def ChkR (w : World) (X : Int) (e : Ending) (w' : World) : Prop := e = .returned (.int .i64 X) ∧ Below w.heap.size w w'
set_option maxRecDepth 100000 in
set_option maxHeartbeats 1000000 in
theorem check_arg (day n : Int) (h : day < 1 ∨ 1000000 < day ∨ n < 1) (q : Value) : Calls Try.prog 42 #[q, .int .i64 day, .int .i64 n] w (ChkR w 1) := by
  unfold ChkR
  have HD := Lib.hid (fun (W : World) => isDay_any day W)
  cases hb : dayB day with
  | false =>
    rw [hb] at HD
    clear h hb
    go_enter Try.func42, Try.ntmps42
    go_wp2_with fail
    refine (HD.out _).mono ?_
    rintro e w1 ⟨rfl, rfl⟩
    go_wp2_with fail
    go_ret
    exact ⟨rfl, Below.refl _ _⟩
  | true =>
    have hn : n < 1 := by unfold dayB at hb; simp only [Bool.and_eq_true, decide_eq_true_eq] at hb; omega
    rw [hb] at HD
    clear h hb
    go_enter Try.func42, Try.ntmps42
    go_wp2_with fail
    refine (HD.out _).mono ?_
    rintro e w1 ⟨rfl, rfl⟩
    go_wp2_with fail
    go_ret
    exact ⟨rfl, Below.refl _ _⟩
theorem day_in {day : Int} (h1 : 1 ≤ day) (h2 : day ≤ 1000000) : dayB day = true := by unfold dayB; simp [h1, h2]
set_option maxRecDepth 100000 in
set_option maxHeartbeats 1000000 in
theorem check_other (h : TgX w B p d E la lc tv) (day n : Int) (h1 : 1 ≤ day) (h2 : day ≤ 1000000) (h3 : 1 ≤ n) (m2 : d.me ≠ 2) (m3 : d.me ≠ 3) : Calls Try.prog 42 #[.pointer (some ⟨p, 0, none⟩), .int .i64 day, .int .i64 n] w (ChkR w 1) := by
  unfold ChkR
  have HD := Lib.hid (fun (W : World) => isDay_any day W)
  rw [day_in h1 h2] at HD
  have c3 := h.has.cell 3
  simp at c3
  generalize d.me = me at c3 m2 m3
  have m2' : (me == 2) = false := by simpa using m2
  have m3' : (me == 3) = false := by simpa using m3
  have hn : ¬ n < 1 := by omega
  clear h h1 h2 m2 m3 h3
  go_enter Try.func42, Try.ntmps42
  go_wp2_with fail
  refine (HD.out _).mono ?_
  rintro e w1 ⟨rfl, rfl⟩
  go_wp2_with fail
  go_ret
  exact ⟨rfl, Below.refl _ _⟩
set_option maxRecDepth 100000 in
set_option maxHeartbeats 1000000 in
theorem check_great (h : TgX w B p d E la lc tv) (day n : Int) (h1 : 1 ≤ day) (h2 : day ≤ 1000000) (m2 : d.me = 2) (h3 : 10000 < n) : Calls Try.prog 42 #[.pointer (some ⟨p, 0, none⟩), .int .i64 day, .int .i64 n] w (ChkR w 1) := by
  unfold ChkR
  have HD := Lib.hid (fun (W : World) => isDay_any day W)
  rw [day_in h1 h2] at HD
  have c3 := h.has.cell 3
  simp at c3
  rw [m2] at c3
  have hn : ¬ n < 1 := by omega
  clear h h1 h2 m2
  go_enter Try.func42, Try.ntmps42
  go_wp2_with fail
  refine (HD.out _).mono ?_
  rintro e w1 ⟨rfl, rfl⟩
  go_wp2_with fail
  go_ret
  exact ⟨rfl, Below.refl _ _⟩
set_option maxRecDepth 100000 in
set_option maxHeartbeats 1000000 in
theorem check_ris (h : TgX w B p d E la lc tv) (day n : Int) (h1 : 1 ≤ day) (h2 : day ≤ 1000000) (h3 : 1 ≤ n) (m2 : d.me = 2) (h4 : n ≤ 10000) (h5 : risT day n E ≠ 0) : Calls Try.prog 42 #[.pointer (some ⟨p, 0, none⟩), .int .i64 day, .int .i64 n] w (ChkR w (risT day n E)) := by
  unfold ChkR
  have HD := Lib.hid (fun (W : World) => isDay_any day W)
  rw [day_in h1 h2] at HD
  have HR := Lib.hid (tnrises_any h day n)
  have c3 := h.has.cell 3
  simp at c3
  rw [m2] at c3
  have hn : ¬ n < 1 := by omega
  have hn2 : ¬ 10000 < n := by omega
  generalize risT day n E = r at h5 HR
  have h5' : (r != 0) = true := by simpa using h5
  clear h h1 h2 m2 h3 h4 h5
  go_enter Try.func42, Try.ntmps42
  go_wp2_with fail
  refine (HD.out _).mono ?_
  rintro e w1 ⟨rfl, rfl⟩
  go_wp2_with fail
  refine HR.out.mono ?_
  rintro e w1 ⟨rfl, hb⟩
  have HB := Lib.hid hb
  clear hb
  go_wp2_with fail
  go_ret
  exact ⟨rfl, HB.out⟩
set_option maxRecDepth 100000 in
set_option maxHeartbeats 4000000 in
theorem check_fin (h : TgX w B p d E la lc tv) (day n : Int) (h1 : 1 ≤ day) (h2 : day ≤ 1000000) (h3 : 1 ≤ n) (hn9 : Am n) (hm : d.me = 3 ∨ (d.me = 2 ∧ n ≤ 10000 ∧ risT day n E = 0)) : Calls Try.prog 42 #[.pointer (some ⟨p, 0, none⟩), .int .i64 day, .int .i64 n] w (ChkR w (finT E n)) := by
  unfold ChkR
  have HD := Lib.hid (fun (W : World) => isDay_any day W)
  rw [day_in h1 h2] at HD
  have HR := Lib.hid (tnrises_any h day n)
  have hF := h.fine
  have hS0 := sumT_nn hF.ok
  have hS1 := hF.sum
  have HT := Lib.hid (fun (W : World) (q : Below w.heap.size w W) => tog_any (h.up q) 1000000)
  rw [thrS_all hF.ok] at HT
  have HA := Lib.hid (fun (W : World) => add_any (sumT E) n W (by omega) (by omega) hn9.1 hn9.2)
  have htE : tellE (sumT E + n) = if 9223372036854775807 < sumT E + n then 3 else 0 := by
    unfold tellE
    split <;> split <;> omega
  rw [htE] at HA
  obtain ⟨ta, tc, rfl, _⟩ := h.row
  have c3 := h.has.cell 3
  have c6 := h.has.cell 6
  simp at c3 c6
  have hlen := hF.len
  have hn : ¬ n < 1 := by omega
  have hfin : finT E n = if E.length = 200 then 4 else if 9223372036854775807 < sumT E + n then 3 else 0 := by
    unfold finT
    by_cases q : E.length = 200
    · rw [if_pos q, if_pos (by omega)]
    · rw [if_neg q, if_neg (by omega)]
  have HFin := Lib.hid hfin
  generalize sumT E = s at HT HA HFin
  have HC := Lib.hid c6
  generalize hl : E.length = L at HC HFin hlen
  clear htE hF hS0 hS1 h1 h2 h3 hfin hn9 hl c6
  generalize hov : (if 9223372036854775807 < s + n then (3 : Int) else 0) = ov at HA HFin
  clear hov
  by_cases qL : L = 200
  · have hq : ((L : Int) == 200) = true := by rw [qL]; rfl
    have hf := HFin.out
    rw [if_pos qL] at hf
    rw [hf]
    clear hf HA HT
    rcases hm with hm | ⟨hm, hn2, hr⟩
    · rw [hm] at c3
      clear hm h
      have c6 := HC.out
      go_enter Try.func42, Try.ntmps42
      go_wp2_with fail
      refine (HD.out _).mono ?_
      rintro e w1 ⟨rfl, rfl⟩
      go_wp2_with fail
      go_ret
      exact ⟨rfl, Below.refl _ _⟩
    · rw [hm] at c3
      rw [hr] at HR
      have hn3 : ¬ 10000 < n := by omega
      clear hm h hr hn2
      go_enter Try.func42, Try.ntmps42
      go_wp2_with fail
      refine (HD.out _).mono ?_
      rintro e w1 ⟨rfl, rfl⟩
      go_wp2_with fail
      refine HR.out.mono ?_
      rintro e w1 ⟨rfl, hb⟩
      have HB := Lib.hid hb
      have c6 := kcell hb HC.out
      clear hb c3
      go_wp2_with fail
      go_ret
      exact ⟨rfl, HB.out⟩
  · have hq : ((L : Int) == 200) = false := by simp; omega
    have hf := HFin.out
    rw [if_neg qL] at hf
    rw [hf]
    clear hf
    rcases hm with hm | ⟨hm, hn2, hr⟩
    · rw [hm] at c3
      clear hm h
      have c6 := HC.out
      go_enter Try.func42, Try.ntmps42
      go_wp2_with fail
      refine (HD.out _).mono ?_
      rintro e w1 ⟨rfl, rfl⟩
      go_wp2_with fail
      refine (HT.out _ (Below.refl _ _)).mono ?_
      rintro e w1 ⟨rfl, hb⟩
      have HB := Lib.hid hb
      clear hb c3 c6
      go_wp2_with fail
      refine (HA.out _).mono ?_
      rintro e w2 ⟨rfl, hb⟩
      have HB2 := Lib.hid (up2 HB.out hb)
      clear hb
      go_wp2_with fail
      go_ret
      exact ⟨rfl, HB2.out⟩
    · rw [hm] at c3
      rw [hr] at HR
      have hn3 : ¬ 10000 < n := by omega
      clear hm h hr hn2
      go_enter Try.func42, Try.ntmps42
      go_wp2_with fail
      refine (HD.out _).mono ?_
      rintro e w1 ⟨rfl, rfl⟩
      go_wp2_with fail
      refine HR.out.mono ?_
      rintro e w1 ⟨rfl, hb⟩
      have HB := Lib.hid hb
      have c6 := kcell hb HC.out
      clear hb c3
      go_wp2_with fail
      refine (HT.out _ HB.out).mono ?_
      rintro e w2 ⟨rfl, hb⟩
      have HB2 := Lib.hid (up2 HB.out hb)
      clear hb c6
      go_wp2_with fail
      refine (HA.out _).mono ?_
      rintro e w3 ⟨rfl, hb⟩
      have HB3 := Lib.hid (up2 HB2.out hb)
      clear hb
      go_wp2_with fail
      go_ret
      exact ⟨rfl, HB3.out⟩
theorem check_any14 (h : TgX w B p d E la lc tv) (day n : Int) (hn : Am n) : Calls Try.prog 42 #[.pointer (some ⟨p, 0, none⟩), .int .i64 day, .int .i64 n] w (ChkR w (telE d.me E day n)) := by
  unfold telE
  by_cases q0 : day < 1 ∨ 1000000 < day ∨ n < 1
  · rw [if_pos q0]; exact check_arg day n q0 _
  · rw [if_neg q0]
    by_cases q1 : d.me = 2
    · rw [if_pos q1]
      by_cases q2 : 10000 < n
      · rw [if_pos q2]; exact check_great h day n (by omega) (by omega) q1 q2
      · rw [if_neg q2]
        by_cases q3 : risT day n E = 0
        · rw [if_pos q3]; exact check_fin h day n (by omega) (by omega) (by omega) hn (.inr ⟨q1, by omega, q3⟩)
        · rw [if_neg q3]; exact check_ris h day n (by omega) (by omega) (by omega) q1 (by omega) q3
    · rw [if_neg q1]
      by_cases q2 : d.me = 3
      · rw [if_pos q2]; exact check_fin h day n (by omega) (by omega) (by omega) hn (.inl q2)
      · rw [if_neg q2]; exact check_other h day n (by omega) (by omega) (by omega) q1 q2
end
end Go.Proofs.Ytobdcogaphkogaa
