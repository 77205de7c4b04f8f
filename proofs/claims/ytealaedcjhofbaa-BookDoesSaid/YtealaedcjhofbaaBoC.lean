/- Set. -/
import Derived.Test.YtealaedcjhofbaaBoB
namespace Go.Proofs.Ytealaedcjhofbaa
open Go.RowKit

/-- what Set answers, and leaves -/
def SetR (w : World) (p r : Nat) (S : Bs) (i d n : Int) (e : Ending) (w' : World) : Prop := e = .returned (.int .i64 (setE S i d n)) ∧ Bk w' p r (setS S i d n) ∧ w.grownBy w' (some r)
section
variable {w : World} {p r : Nat} {S : Bs}
theorem setR_same {i d n E : Int} {w' : World} (h : Bk w p r S) (hE : setE S i d n = E) (h0 : E ≠ 0) (hb : Below w.heap.size w w') : SetR w p r S i d n (.returned (.int .i64 E)) w' := by
  refine ⟨by rw [hE], ?_, grown_of hb _⟩
  unfold setS
  rw [if_neg (by rw [hE]; exact h0)]
  exact h.up hb
set_option maxRecDepth 100000 in
set_option maxHeartbeats 1000000 in
theorem set_name (i d n : Int) (h : Bk w p r S) (h1 : hasB S i = false) : Calls Try.prog 10 #[.pointer (some ⟨p, 0, none⟩), .int .i64 i, .int .i64 d, .int .i64 n] w (SetR w p r S i d n) := by
  have hE : setE S i d n = 5 := by unfold setE; rw [if_pos h1]
  have HH := Lib.hid (bhas_any i h)
  rw [h1] at HH
  have HB := Lib.hid h
  have HE := Lib.hid hE
  clear h h1 hE
  go_enter Try.func10, Try.ntmps10
  go_wp2_with fail
  refine HH.out.mono ?_
  rintro e w1 ⟨rfl, rfl⟩
  go_wp2_with fail
  go_ret
  exact setR_same HB.out HE.out (by omega) (Below.refl _ _)
set_option maxRecDepth 100000 in
set_option maxHeartbeats 2000000 in
theorem set_arg (i d n : Int) (h : Bk w p r S) (h1 : hasB S i = true) (h2 : d < 1 ∨ 1000000 < d ∨ n < 1) : Calls Try.prog 10 #[.pointer (some ⟨p, 0, none⟩), .int .i64 i, .int .i64 d, .int .i64 n] w (SetR w p r S i d n) := by
  have hE : setE S i d n = 1 := by unfold setE; rw [if_neg (by rw [h1]; simp), if_pos h2]
  have HH := Lib.hid (bhas_any i h)
  rw [h1] at HH
  have HB := Lib.hid h
  have HE := Lib.hid hE
  clear h h1 hE
  by_cases q1 : d < 1
  · clear h2
    go_enter Try.func10, Try.ntmps10
    go_wp2_with fail
    refine HH.out.mono ?_
    rintro e w1 ⟨rfl, rfl⟩
    go_wp2_with fail
    go_ret
    exact setR_same HB.out HE.out (by omega) (Below.refl _ _)
  · by_cases q2 : 1000000 < d
    · clear h2
      go_enter Try.func10, Try.ntmps10
      go_wp2_with fail
      refine HH.out.mono ?_
      rintro e w1 ⟨rfl, rfl⟩
      go_wp2_with fail
      go_ret
      exact setR_same HB.out HE.out (by omega) (Below.refl _ _)
    · have q3 : n < 1 := by omega
      clear h2
      go_enter Try.func10, Try.ntmps10
      go_wp2_with fail
      refine HH.out.mono ?_
      rintro e w1 ⟨rfl, rfl⟩
      go_wp2_with fail
      go_ret
      exact setR_same HB.out HE.out (by omega) (Below.refl _ _)
/-- an entry's cells -/
theorem pra_at {w : World} {b o : Nat} {R : List (Int × Int)} (h : PrA w (some ⟨b, o, none⟩) R) {j : Nat} {e : Int × Int} (he : R[j]? = some e) : w.cell? ⟨b, o + j * 2, none⟩ = some (.int .i64 e.1) ∧ w.cell? ⟨b, o + j * 2 + 1, none⟩ = some (.int .i64 e.2) := by
  rcases h with z | ⟨b', o', z, hz⟩
  · rw [z] at he; simp at he
  · injection z with z
    injection z with z1 z2
    subst z1; subst z2
    exact ⟨hz j e he 0 _ rfl, hz j e he 1 _ rfl⟩
set_option maxRecDepth 100000 in
set_option maxHeartbeats 4000000 in
theorem set_in (i d n : Int) (h : Bk w p r S) (h1 : hasB S i = true) (h2 : 1 ≤ d) (h3 : d ≤ 1000000) (h4 : 1 ≤ n) (hn : Am n) : Calls Try.prog 10 #[.pointer (some ⟨p, 0, none⟩), .int .i64 i, .int .i64 d, .int .i64 n] w (SetR w p r S i d n) := by
  have hF := h.fine
  have HH := Lib.hid (bhas_any i h)
  rw [h1] at HH
  have HBk := Lib.hid h
  have hI := hasB_iff.1 h1
  obtain ⟨g, rfl⟩ : ∃ g : Nat, i = g := ⟨i.toNat, by omega⟩
  have hg : g < S.I.length := by omega
  have hfew := hF.few
  obtain ⟨qa, qc, X, hx⟩ := h
  have c1 := hx.c1
  obtain ⟨x, hX, c2⟩ := hx.row hg
  obtain ⟨hP, hcap, hRow⟩ := hx.ok g x hX
  have hrl := hRow.len
  have hmost := hF.most g
  have hEv : setE S g d n = if twiB S.L g d = true then 6 else if 100 ≤ (ofIt S.L g).length then 4 else 0 := by
    unfold setE
    rw [if_neg (by rw [h1]; simp), if_neg (by omega)]
  obtain ⟨b, o, ha⟩ : ∃ b o, x.a = some ⟨b, o, none⟩ := by
    rcases hP with z | ⟨b, o, z, _⟩
    · rw [z] at hrl; simp at hrl; omega
    · exact ⟨b, o, z⟩
  rw [ha] at hP c2
  obtain ⟨m, hm⟩ : ∃ m, m = x.R.length := ⟨_, rfl⟩
  have HBeh := Lib.hid (behind_any d x.R (some ⟨b, o, none⟩) x.cap w (by omega) (by omega) hP hRow.asc)
  have HX := Lib.hid hx
  have HXi := Lib.hid hX
  have HP := Lib.hid hP
  have HR := Lib.hid hRow
  have HEv := Lib.hid hEv
  have HL : Hid (m = 1 + (ofIt S.L g).length) := by rw [hm]; exact hrl
  have HM := Lib.hid hm
  have HF := Lib.hid hF
  have HN := Lib.hid hn
  have hpr : p ≠ r := hx.book.ne hx.rows (by decide)
  have f2 := hx.rows.free g
  rw [← hm] at HBeh hcap c2 hrl
  have hm1 : 1 ≤ m := by omega
  have hm2 : m ≤ 101 := by omega
  clear hx hX hP hRow hEv hm hF hn ha h1 hI hrl hmost
  go_enter Try.func10, Try.ntmps10
  go_wp2_with fail
  refine HH.out.mono ?_
  rintro e w1 ⟨rfl, rfl⟩
  go_wp2_with fail
  refine HBeh.out.mono ?_
  rintro e w2 ⟨k, hk, rfl, hb⟩
  have hk1 := HR.out.pos (d := d) (by omega) hk
  have hkm : k ≤ m := by rw [HM.out]; exact hk.le
  obtain ⟨j, rfl⟩ : ∃ j, k = j + 1 := ⟨k - 1, by omega⟩
  obtain ⟨en, hen⟩ : ∃ en, x.R[j]? = some en := ⟨x.R[j]'(by rw [← HM.out]; omega), List.getElem?_eq_getElem _⟩
  have ht := HR.out.twi h2 hk (e := en) (by simpa using hen)
  have d0 := kcell hb (pra_at HP.out hen).1
  have d1 := kcell hb c1
  have d2 := kcell hb c2
  have f3 := (hb.frozen (p := ⟨r, g, none⟩) HBk.out.ltr).trans f2
  have HK := Lib.hid hk
  have HB := Lib.hid hb
  have HEn := Lib.hid hen
  have HT := Lib.hid ht
  clear hk hb hen ht c1 c2 f2
  rw [show ((j + 1 : Nat) : Int) = (j : Int) + 1 by omega]
  have e1 : (j : Int) + 1 - 1 = (j : Int) := by omega
  cases q : twiB S.L g d with
  | true =>
    have ht : (en.1 == d) = true := by rw [HT.out, q]
    have hE : setE S g d n = 6 := by rw [HEv.out, if_pos q]
    have HE := Lib.hid hE
    clear q hE
    go_wp2_with fail
    go_ret
    exact setR_same HBk.out HE.out (by omega) HB.out
  | false =>
    have ht : (en.1 == d) = false := by rw [HT.out, q]
    have hq : ¬ twiB S.L g d = true := by rw [q]; simp
    by_cases hfull : m = 101
    · have hE : setE S g d n = 4 := by rw [HEv.out, if_neg hq, if_pos (by have := HL.out; omega)]
      have HE := Lib.hid hE
      have hl : ((m : Int) == 101) = true := by rw [hfull]; rfl
      clear q hE hfull hq
      go_wp2_with fail
      go_ret
      exact setR_same HBk.out HE.out (by omega) HB.out
    · have hE : setE S g d n = 0 := by rw [HEv.out, if_neg hq, if_neg (by have := HL.out; omega)]
      have HE := Lib.hid hE
      have hl : ((m : Int) == 101) = false := by simp; omega
      have hput := put_any x.R (some ⟨b, o, none⟩) x.cap (j + 1) d n w2.drew ((HP.out.up HB.out).up (Below.refl _ _).drew) (by rw [← HM.out]; exact hcap) (by omega) HK.out.le (by rw [← HM.out]; omega)
      rw [← HM.out, show ((j + 1 : Nat) : Int) = (j : Int) + 1 by omega] at hput
      have HPut := Lib.hid hput
      have K0 : Hid (w2.drew.cell? ⟨p, 1, none⟩ = some (.slice (some ⟨r, 0, none⟩) S.I.length S.I.length)) := d1
      clear q hE hfull hq hput
      go_wp2_with fail
      go_region_held3 (fun w' => w'.cell? ⟨p, 1, none⟩ = some (.slice (some ⟨r, 0, none⟩) S.I.length S.I.length))
        (first | (go_keep; done) | (with_reducible exact K0.out) | (with_reducible exact kK1.out) | (exact kK2.out _))
        (first | (go_at_call 23; (with_reducible refine (HPut.out).mono ?_); rintro e w3 ⟨v, rfl, A, C, rfl, hp1, hp2, hb3⟩; have kK1 : Hid (w3.cell? ⟨p, 1, none⟩ = some (.slice (some ⟨r, 0, none⟩) S.I.length S.I.length)) := kcell hb3 K0.out; have kK2 : Hid (∀ u, (w3.setCell ⟨r, g, none⟩ u).cell? ⟨p, 1, none⟩ = some (.slice (some ⟨r, 0, none⟩) S.I.length S.I.length)) := (fun u => cset kK1.out (.inl hpr)); have kd2 := kcell hb3 (show w2.drew.cell? ⟨r, g, none⟩ = some (.slice (some ⟨b, o, none⟩) m x.cap) from d2); have kf3 := (hb3.frozen (p := ⟨r, g, none⟩) (World.block_lt_of_cell? _ _ (show w2.drew.cell? ⟨r, g, none⟩ = some (.slice (some ⟨b, o, none⟩) m x.cap) from d2))).trans (show w2.drew.frozen? ⟨r, g, none⟩ = false from f3); have kB3 := Lib.hid (up2 HB.out.drew hb3); have kP1 := Lib.hid hp1; have kP2 := Lib.hid hp2; clear hb3 hp1 hp2))
      all_goals
        clear d0 d1 d2 f3 kd2 kf3
        go_wp2_with fail
        go_ret
        refine ⟨by rw [HE.out]; rfl, HX.out.set HXi.out HK.out HE.out HN.out kB3.out kP1.out kP2.out, grown_trans (grown_of kB3.out _) (grown_set _ _ _ _)⟩
theorem set_any (i d n : Int) (h : Bk w p r S) (hn : Am n) : Calls Try.prog 10 #[.pointer (some ⟨p, 0, none⟩), .int .i64 i, .int .i64 d, .int .i64 n] w (SetR w p r S i d n) := by
  cases h1 : hasB S i with
  | false => exact set_name i d n h h1
  | true =>
    by_cases h2 : d < 1 ∨ 1000000 < d ∨ n < 1
    · exact set_arg i d n h h1 h2
    · exact set_in i d n h h1 (by omega) (by omega) (by omega) hn
end
end Go.Proofs.Ytealaedcjhofbaa
