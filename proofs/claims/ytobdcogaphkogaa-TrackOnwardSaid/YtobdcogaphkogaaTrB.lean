/- Earned. -/
import Derived.Test.YtobdcogaphkogaaTrA
namespace Go.Proofs.Ytobdcogaphkogaa
open Go.RowKit

theorem thrW_am {d : Dt} (h : dtB d = true) (hu : d.un ≤ 9223372036854775807) : thrW d ≤ 9223372036854775807 := by
  have := dtB_iff.1 h
  unfold thrW; (repeat' split) <;> omega
/-- what is earned, by what is done -/
theorem earS_is {d : Dt} {E : List Tl} {L : List Sp} (h : FineS L) (hE : FineT d E) (day : Int) : earV d E L day = spE (cnt L day) (thrV d E day - thrV d E (cnt L day).og) (thrW d - thrV d E (cnt L day).og) := by
  have h0 := h.origin hE day
  unfold earV earS spE
  by_cases q : thrW d = thrV d E (cnt L day).og
  · rw [if_pos q, if_pos (by omega)]
  · rw [if_neg q, if_neg (by omega), show max (thrV d E day - thrV d E (cnt L day).og) 0 = thrV d E day - thrV d E (cnt L day).og by omega]
section
variable {w : World} {O : Nat → Prop} {b p : Nat} {d : Dt} {E : List Tl} {L : List Sp} {la : Option Addr} {lc : Nat} {tv sv : Value}
set_option maxRecDepth 100000 in
set_option maxHeartbeats 4000000 in
theorem tearned_any (h : TkX w O b p d E L la lc tv sv) (day : Int) : Calls Try.prog 14 #[.pointer (some ⟨b, 0, none⟩), .int .i64 day] w fun e w' => e = .returned (.int .i64 (earV d E L day)) ∧ Below w.heap.size w w' := by
  rw [earS_is h.fine h.log.fine day]
  have HC := Lib.hid (tcount_any h day)
  have hx := h.fine.ok _ (cnt_mem h.fine.some day)
  have ho := h.fine.origin h.log.fine day
  have HS := Lib.hid (fun (n m : Int) h0 h1 h2 (W : World) => spear_any (cnt L day) hx.g n m h0 h1 h2 W)
  have HThr := Lib.hid (fun (W : World) (q : Below w.heap.size w W) (a : Int) => thr_any (h.log.up q) a)
  unfold ThrR at HThr
  have i0 := thr_in h.log.fine day
  have i1 := thr_in h.log.fine (cnt L day).og
  have i2 := thrW_am h.log.fine.may h.un
  have c0 := h.has.cell 0
  simp at c0
  have hlt := h.has.lt
  have HC0 := Lib.hid c0
  generalize cnt L day = x at HC HS ho i1 ⊢
  clear hx
  obtain ⟨f, og, ba, re⟩ := x
  unfold Sp.val at HC HS
  simp only at HC HS ho i1 ⊢
  obtain ⟨B, hB⟩ : ∃ B, B = thrV d E day := ⟨_, rfl⟩
  obtain ⟨A, hA⟩ : ∃ A, A = thrV d E og := ⟨_, rfl⟩
  have HB' := Lib.hid hB
  have HA' := Lib.hid hA
  rw [← hA] at ho i1 ⊢
  rw [← hB] at ho i0 ⊢
  generalize thrW d = m at HThr i0 i1 i2 ⊢
  have e1 : IntKind.i64.wrap (B - A) = B - A := IntWalk.i64_in _ (by omega)
  have e2 : IntKind.i64.wrap (m - A) = m - A := IntWalk.i64_in _ (by omega)
  have HS1 := Lib.hid (fun (W : World) => HS.out (B - A) (m - A) (by omega) (by omega) (by omega) W)
  generalize spE ⟨f, og, ba, re⟩ (B - A) (m - A) = v at HS1 ⊢
  clear h ho i0 i1 i2 hA hB HS c0
  go_enter Try.func14, Try.ntmps14
  go_wp2_with fail
  refine HC.out.mono ?_
  rintro e w1 ⟨rfl, hb1⟩
  have HB1 := Lib.hid hb1
  clear hb1
  go_wp2_with fail
  obtain ⟨W2, hW2⟩ : ∃ W2, W2 = w1.alloc (.cells #[.int .i64 f, .int .i64 og, .int .i64 ba, .int .i64 re] 58) := ⟨_, rfl⟩
  have hf : Has W2 w1.heap.size 58 #[.int .i64 f, .int .i64 og, .int .i64 ba, .int .i64 re] := by rw [hW2]; exact Has.fresh _ _ _
  have HB2 : Hid (Below w.heap.size w W2) := by rw [hW2]; exact Lib.hid (up2 HB1.out (boxed _ _))
  have HF := Lib.hid hf
  rw [← hW2]
  clear hf hW2 hlt
  obtain ⟨g, hg⟩ : ∃ g, g = w1.heap.size := ⟨_, rfl⟩
  rw [← hg] at HF ⊢
  have K0 : Hid (W2.drew.cell? ⟨b, 0, none⟩ = some (.pointer (some ⟨p, 0, none⟩)) ∧ W2.drew.cell? ⟨g, 1, none⟩ = some (.int .i64 og)) := Lib.hid ⟨kcell HB2.out.drew HC0.out, HF.out.cell 1⟩
  have HCall := Lib.hid (HThr.out W2.drew HB2.out.drew og)
  rw [← HA'.out] at HCall
  clear hg
  go_region_held3 (fun w' => w'.cell? ⟨b, 0, none⟩ = some (.pointer (some ⟨p, 0, none⟩)) ∧ w'.cell? ⟨g, 1, none⟩ = some (.int .i64 og))
    (first | (go_keep; done) | (with_reducible exact K0.out) | (with_reducible exact kK1.out))
    (first | (go_at_call 34; (with_reducible refine (HCall.out).mono ?_); rintro e w3 ⟨rfl, hb3⟩; have kK1 : Hid (w3.cell? ⟨b, 0, none⟩ = some (.pointer (some ⟨p, 0, none⟩)) ∧ w3.cell? ⟨g, 1, none⟩ = some (.int .i64 og)) := Lib.hid ⟨kcell hb3 K0.out.1, kcell hb3 K0.out.2⟩; have kB3 := Lib.hid (up2 HB2.out.drew hb3); have kF3 := Lib.hid ((HF.out.up (Below.refl _ _).drew).up hb3); clear hb3))
  all_goals
    have c0 := kK1.out.1
    go_wp2_with fail
    refine (HThr.out _ kB3.out day).mono ?_
    rintro e w4 ⟨rfl, hb4⟩
    rw [← HB'.out]
    have hx := kF3.out.up hb4
    have x0 := hx.cell 0
    have x1 := hx.cell 1
    have x2 := hx.cell 2
    have x3 := hx.cell 3
    simp at x0 x1 x2 x3
    have HB4 := Lib.hid (up2 kB3.out hb4)
    clear hb4 hx c0
    go_wp2_with fail
    refine (HS1.out _).mono ?_
    rintro e w5 ⟨rfl, hb5⟩
    have HB5 := Lib.hid (up2 HB4.out hb5)
    clear hb5
    go_wp2_with fail
    go_ret
    exact ⟨rfl, HB5.out⟩
end
end Go.Proofs.Ytobdcogaphkogaa
