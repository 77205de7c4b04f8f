/- put. -/
import Derived.Test.YtjmgncjadfhmcaaDuD
namespace Go.Proofs.Ytjmgncjadfhmcaa
open Go.RowKit

/-- what put answers, of an obligation that is worth al and has un units so far -/
def putE (S : Bs) (x : Ln) (d al un : Int) : Int := if aloE S x d ≠ 0 then aloE S x d else if tellE (al + aloV S x d) ≠ 0 then tellE (al + aloV S x d) else tellE (un + x.un)
def PutD (w0 w : World) (S : Bs) (x : Ln) (d : Int) (g : Nat) (sl : Value) (al un me fi la : Int) (e : Ending) (w' : World) : Prop :=
  e = .returned (.int .i64 (putE S x d al un)) ∧ Below w0.heap.size w0 w' ∧ w.heap.size ≤ w'.heap.size ∧ (putE S x d al un = 0 → Has w' g 43 #[sl, .int .i64 (al + aloV S x d), .int .i64 (un + x.un), .int .i64 me, .int .i64 (min fi x.fi), .int .i64 (max la x.la)])
section
variable {w0 w : World} {p r : Nat} {S : Bs}
set_option maxRecDepth 100000 in
set_option maxHeartbeats 8000000 in
theorem put_anyD (x : Ln) (d : Int) (h : Bk w0 p r S) (hb : Below w0.heap.size w0 w) {g : Nat} (hg : w0.heap.size ≤ g) {sl : Value} {al un me fi la : Int} (hh : Has w g 43 #[sl, .int .i64 al, .int .i64 un, .int .i64 me, .int .i64 fi, .int .i64 la])
    (a1 : Am al) (a2 : Am un) (a3 : Am x.un) (a4 : Am (aloV S x d)) :
    Calls Try.prog 41 #[.pointer (some ⟨g, 0, none⟩), .pointer (some ⟨p, 0, none⟩), x.val, .int .i64 d] w (PutD w0 w S x d g sl al un me fi la) := by
  have HAl := Lib.hid (fun (W : World) (hb : Below w0.heap.size w0 W) => alone_any x d (h.up hb) a3)
  have HAdd := Lib.hid (fun (W : World) => add_any al (aloV S x d) W a1.1 a1.2 a4.1 a4.2)
  have HAdd2 := Lib.hid (fun (W : World) => add_any un x.un W a2.1 a2.2 a3.1 a3.2)
  obtain ⟨P, hP⟩ : ∃ P, P = putE S x d al un := ⟨_, rfl⟩
  have HP := Lib.hid hP
  unfold PutD
  rw [← hP]
  clear hP
  obtain ⟨V, hV⟩ : ∃ V, V = aloV S x d := ⟨_, rfl⟩
  obtain ⟨E, hE⟩ : ∃ E, E = aloE S x d := ⟨_, rfl⟩
  have HPE : Hid (P = if E ≠ 0 then E else if tellE (al + V) ≠ 0 then tellE (al + V) else tellE (un + x.un)) := by
    rw [HP.out, hV, hE]; rfl
  rw [← hV] at HAdd HAl a4 ⊢
  rw [← hE] at HAl
  clear HP h hV hE a1 a2 a3 a4
  obtain ⟨it, xu, ch, xf, xl⟩ := x
  simp only [Ln.val] at HAl HAdd2 HPE ⊢
  have HH := Lib.hid hh
  have HB := Lib.hid hb
  have HG := Lib.hid hg
  clear hh hb hg
  go_enter Try.func41, Try.ntmps41
  go_wp2_with fail
  refine (HAl.out _ (up2 HB.out (boxed _ _))).mono ?_
  rintro e w1 ⟨rfl, hb1⟩
  have HX := Lib.hid ((Has.fresh w 45 #[.int .i64 it, .int .i64 xu, .int .i64 ch, .int .i64 xf, .int .i64 xl]).up hb1)
  have HH1 := Lib.hid ((HH.out.up (boxed _ _)).up hb1)
  have HB1 := Lib.hid (up2 (up2 HB.out (boxed _ _)) hb1)
  have HZ := Lib.hid (Nat.le_trans (boxed w (.cells #[.int .i64 it, .int .i64 xu, .int .i64 ch, .int .i64 xf, .int .i64 xl] 45)).size hb1.size)
  clear hb1
  by_cases q : E = 0
  · have HP1 : Hid (P = if tellE (al + V) ≠ 0 then tellE (al + V) else tellE (un + xu)) := by have := HPE.out; rw [if_neg (by simpa using q)] at this; exact this
    subst q
    have g0 := HH1.out.cell 0
    have g1 : w1.cell? ⟨g, 1, none⟩ = some (.int .i64 al) := HH1.out.cell 1
    have gf := HH1.out.free 1
    go_wp2_with fail
    refine (HAdd.out _).mono ?_
    rintro e w2 ⟨rfl, hb2⟩
    have HX2 := Lib.hid (HX.out.up hb2)
    have HH2 := Lib.hid (HH1.out.up hb2)
    have HB2 := Lib.hid (up2 HB1.out hb2)
    have HZ2 := Lib.hid (Nat.le_trans HZ.out hb2.size)
    clear hb2 g1 gf
    have g1 : w2.cell? ⟨g, 1, none⟩ = some (.int .i64 al) := HH2.out.cell 1
    have gf := HH2.out.free 1
    by_cases q1 : tellE (al + V) = 0
    · have HP2 : Hid (P = tellE (un + xu)) := by have := HP1.out; rw [if_neg (by simpa using q1)] at this; exact this
      have hv : tellV (al + V) = al + V := by
        unfold tellV; unfold tellE at q1; split at q1 <;> simp_all
      rw [q1, hv]
      have HQ1 := Lib.hid hv
      clear q1 hv
      go_wp2_with fail
      obtain ⟨W0, hW0⟩ : ∃ W0, W0 = w2.setCell ⟨g, 1, none⟩ (.int .i64 (al + V)) := ⟨_, rfl⟩
      rw [← hW0]
      have hgx : w.heap.size ≠ g := by have := HH.out.lt; omega
      have HH3 : Hid (Has W0 g 43 #[sl, .int .i64 (al + V), .int .i64 un, .int .i64 me, .int .i64 fi, .int .i64 la]) := by rw [hW0]; exact HH2.out.put 1 _
      have HX3 : Hid (Has W0 w.heap.size 45 #[.int .i64 it, .int .i64 xu, .int .i64 ch, .int .i64 xf, .int .i64 xl]) := by rw [hW0]; exact HX2.out.off (p := ⟨g, 1, none⟩) hgx _
      have HB3 : Hid (Below w0.heap.size w0 W0) := by rw [hW0]; exact HB2.out.setCell HG.out _
      have HZ3 : Hid (w.heap.size ≤ W0.heap.size) := Lib.hid (by rw [hW0]; have := HZ2.out; simpa using this)
      clear hW0 g1 gf
      have g2 : W0.cell? ⟨g, 2, none⟩ = some (.int .i64 un) := HH3.out.cell 2
      have gf2 := HH3.out.free 2
      have x1 : W0.cell? ⟨w.heap.size, 1, none⟩ = some (.int .i64 xu) := HX3.out.cell 1
      go_region_with (first | (go_at_call 50; ((with_reducible refine (HAdd2.out _).mono ?_); rintro e' w4 ⟨rfl, hb4⟩; have HH4 := Lib.hid ((HH3.out.up (Below.refl _ _).drew).up hb4); have HX4 := Lib.hid ((HX3.out.up (Below.refl _ _).drew).up hb4); have HB4 := Lib.hid (up2 HB3.out.drew hb4); have HZ4 := Lib.hid (Nat.le_trans HZ3.out hb4.size); clear hb4; have u2 : w4.cell? ⟨g, 2, none⟩ = some (.int .i64 un) := HH4.out.cell 2; have uf2 := HH4.out.free 2)))
      all_goals
        by_cases q2 : tellE (un + xu) = 0
        · have hv2 : tellV (un + xu) = un + xu := by
            unfold tellV; unfold tellE at q2; split at q2 <;> simp_all
          have HP3 : Hid (P = 0) := by have := HP2.out; rw [q2] at this; exact this
          rw [q2, hv2]
          clear q2 hv2
          go_wp2_with fail
          obtain ⟨W1, hW1⟩ : ∃ W1, W1 = w4.setCell ⟨g, 2, none⟩ (.int .i64 (un + xu)) := ⟨_, rfl⟩
          rw [← hW1]
          have HH5 : Hid (Has W1 g 43 #[sl, .int .i64 (al + V), .int .i64 (un + xu), .int .i64 me, .int .i64 fi, .int .i64 la]) := by rw [hW1]; exact HH4.out.put 2 _
          have HX5 : Hid (Has W1 w.heap.size 45 #[.int .i64 it, .int .i64 xu, .int .i64 ch, .int .i64 xf, .int .i64 xl]) := by rw [hW1]; exact HX4.out.off (p := ⟨g, 2, none⟩) hgx _
          have HB5 : Hid (Below w0.heap.size w0 W1) := by rw [hW1]; exact HB4.out.setCell HG.out _
          have HZ5 : Hid (w.heap.size ≤ W1.heap.size) := Lib.hid (by rw [hW1]; have := HZ4.out; simpa using this)
          clear hW1 u2 uf2
          have g4 : W1.cell? ⟨g, 4, none⟩ = some (.int .i64 fi) := HH5.out.cell 4
          have g5 : W1.cell? ⟨g, 5, none⟩ = some (.int .i64 la) := HH5.out.cell 5
          have gf4 := HH5.out.free 4
          have gf5 := HH5.out.free 5
          have x3 : W1.cell? ⟨w.heap.size, 3, none⟩ = some (.int .i64 xf) := HX5.out.cell 3
          have x4 : W1.cell? ⟨w.heap.size, 4, none⟩ = some (.int .i64 xl) := HX5.out.cell 4
          go_region
          all_goals
            have hF := (HH5.out.put 4 (.int .i64 (min fi xf))).put 5 (.int .i64 (max la xl))
            have HF := Lib.hid hF
            clear hF g4 g5 gf4 gf5 x3 x4
            go_wp2_with fail
            go_ret
            exact ⟨by rw [HP3.out]; rfl, ((HB5.out.setCell HG.out _).setCell HG.out _).drew, by have := HZ5.out; simpa using this, fun _ => HF.out⟩
        · have hne : (tellE (un + xu) != 0) = true := by simpa using q2
          go_wp2_with fail
          go_ret
          exact ⟨by rw [HP2.out]; rfl, HB4.out.setCell HG.out _, by have := HZ4.out; simpa using this, fun z => absurd (HP2.out.symm.trans z) q2⟩
    · have HP2 : Hid (P = tellE (al + V)) := by have := HP1.out; rw [if_pos q1] at this; exact this
      have hne : (tellE (al + V) != 0) = true := by simpa using q1
      go_wp2_with fail
      go_ret
      refine ⟨by rw [HP2.out]; rfl, HB2.out.setCell HG.out _, by have := HZ2.out; simpa using this, fun z => absurd (HP2.out.symm.trans z) q1⟩
  · have HP1 : Hid (P = E) := by have := HPE.out; rw [if_pos q] at this; exact this
    have hne : (E != 0) = true := by simpa using q
    go_wp2_with fail
    go_ret
    exact ⟨by rw [HP1.out]; rfl, HB1.out, HZ.out, fun z => absurd (HP1.out.symm.trans z) q⟩
end
end Go.Proofs.Ytjmgncjadfhmcaa
