/- The reference's track: in memory; New, Since, Allotted, Whole. -/
import Derived.Test.YtobdcogaphkogaaTrA
import Derived.Test.YtobdcogaphkogaaDqC
import Derived.Test.YtobdcogaphkogaaRef
namespace Go.Proofs.Ytobdcogaphkogaa
open Go.RowKit

/-- the reference's track: its struct lies in block r, its log's in block k -/
structure TqX (w : World) (r k : Nat) (d : Dt) (E : List Tl) (L : List Sp) (sv : Value) : Prop where
  log : Qg w k d E
  has : Has w r 40 #[.pointer (some ⟨k, 0, none⟩), sv]
  own : w.ownsRow 0 62 4 sv L.length (L.flatMap spC)
  fine : FineS L
  un : d.un ≤ 9223372036854775807
def Tq (w : World) (r k : Nat) (d : Dt) (E : List Tl) (L : List Sp) : Prop := ∃ sv, TqX w r k d E L sv
/-- it goes on, and nothing else has turned -/
def TqR (w : World) (r k : Nat) (d : Dt) (E : List Tl) (L : List Sp) (w' : World) : Prop := Tq w' r k d E L ∧ Kp (fun g => g = r ∨ g = k) w w'
section
variable {w w' w2 : World} {O : Nat → Prop} {r k : Nat} {d : Dt} {E : List Tl} {L : List Sp} {sv : Value}
theorem TqX.up (h : TqX w r k d E L sv) (q : Below w.heap.size w w') : TqX w' r k d E L sv := ⟨h.log.up q, h.has.up q, own_up h.own q, h.fine, h.un⟩
theorem Tq.up (h : Tq w r k d E L) (q : Below w.heap.size w w') : Tq w' r k d E L := by obtain ⟨sv, h⟩ := h; exact ⟨sv, h.up q⟩
theorem Tq.fineS (h : Tq w r k d E L) : FineS L := by obtain ⟨sv, h⟩ := h; exact h.fine
theorem Tq.fineT (h : Tq w r k d E L) : FineT d E := by obtain ⟨sv, h⟩ := h; exact h.log.fine
theorem TqR.same (h : Tq w r k d E L) (q : Below w.heap.size w w') : TqR w r k d E L w' := ⟨h.up q, Kp.of q⟩
theorem TqR.from (hb : Below w.heap.size w w') (h : TqR w' r k d E L w2) : TqR w r k d E L w2 := ⟨h.1, (Kp.of hb).trans h.2 (fun _ q => .inl q)⟩
theorem TqX.row (h : TqX w r k d E L sv) : ∃ a c, sv = .slice a L.length c ∧ SpA w a L := by
  obtain ⟨a, c, e, _⟩ := own_form3 h.own
  subst e
  exact ⟨a, c, rfl, (own_rws sp_len h.own rfl).1⟩
/-- what turns elsewhere leaves it -/
theorem Tq.keep (h : Tq w r k d E L) (hs : ∀ g T cs, Has w g T cs → T = 40 ∨ T = 65 ∨ T = 67 ∨ T = 62 → (T = 40 → g = r) → (T = 65 → g = k) → Has w' g T cs) : Tq w' r k d E L := by
  obtain ⟨sv, h⟩ := h
  obtain ⟨la, lc, tv, hq⟩ := h.log
  have own1 : ∀ {T B z n : Nat} {v : Value} {xs : List Value}, T = 67 ∨ T = 62 → w.ownsRow B T z v n xs → w'.ownsRow B T z v n xs := fun {T B z n v xs} hT ho => by
    refine ⟨ho.1, ?_⟩
    rcases ho.2 with q | ⟨g, cap, cur, e, q3, q4, q5⟩
    · exact .inl q
    · refine .inr ⟨g, cap, cur, e, q3, hs g T cur q4 ?_ ?_ ?_, q5⟩
      · rcases hT with rfl | rfl <;> decide
      · rcases hT with rfl | rfl <;> intro e <;> contradiction
      · rcases hT with rfl | rfl <;> intro e <;> contradiction
  exact ⟨sv, ⟨la, lc, tv, hs _ _ _ hq.has (by decide) (fun e => by contradiction) (fun _ => rfl), own1 (.inl rfl) hq.own, hq.fine⟩, hs _ _ _ h.has (by decide) (fun _ => rfl) (fun e => by contradiction), own1 (.inr rfl) h.own, h.fine, h.un⟩
theorem Tq.oth (h : Tq w r k d E L) (hO : Oth15 w w') : Tq w' r k d E L :=
  h.keep fun g T cs hh hT _ _ => hO g T cs hh (by rcases hT with rfl | rfl | rfl | rfl <;> decide) (by rcases hT with rfl | rfl | rfl | rfl <;> decide) (by rcases hT with rfl | rfl | rfl | rfl <;> decide) (by rcases hT with rfl | rfl | rfl | rfl <;> decide)
set_option maxRecDepth 100000 in
set_option maxHeartbeats 4000000 in
theorem qsince_any (h : TqX w r k d E L sv) : Calls Try.prog 21 #[.pointer (some ⟨r, 0, none⟩)] w fun e w' => e = .returned (.int .i64 (lastS L).fr) ∧ Below w.heap.size w w' := by
  obtain ⟨a, c, rfl, hrow⟩ := h.row
  have hpos := List.length_pos_iff.2 h.fine.some
  have hlen := h.fine.len
  obtain ⟨g, o, rfl, z0, z1, z2, z3⟩ := sp_at hrow (last_at h.fine.some)
  have c1 := h.has.cell 1
  simp at c1
  obtain ⟨⟨f, og, ba, re⟩, hx⟩ : ∃ x, x = lastS L := ⟨_, rfl⟩
  rw [← hx] at z0 z1 z2 z3 ⊢
  simp only at z0 z1 z2 z3 ⊢
  obtain ⟨n, hn⟩ : ∃ n, n = L.length := ⟨_, rfl⟩
  rw [← hn] at c1 hpos hlen z0 z1 z2 z3
  obtain ⟨t, ht⟩ : ∃ t, t = n - 1 := ⟨_, rfl⟩
  rw [← ht] at z0 z1 z2 z3
  have e1 : IntKind.i64.wrap ((n : Int) - 1) = (t : Int) := by rw [IntWalk.i64_in _ (by omega)]; omega
  have t1 : t < n := by omega
  have i0 : (0 : Int) ≤ (t : Int) := by omega
  have i1 : (t : Int) < (n : Int) := by omega
  clear h hrow hx hn ht hpos hlen z1 z2 z3
  go_enter Try.func21, Try.ntmps21
  go_wp2_with fail
  go_region
  all_goals
    go_wp2_with fail
    go_ret
    exact ⟨rfl, (Below.refl _ _).drew⟩
set_option maxRecDepth 100000 in
set_option maxHeartbeats 4000000 in
theorem qallot_any (h : TqX w r k d E L sv) : Calls Try.prog 17 #[.pointer (some ⟨r, 0, none⟩)] w fun e w' => e = .returned (.int .i64 (altV L)) ∧ Below w.heap.size w w' := by
  unfold altV
  obtain ⟨a, c, rfl, hrow⟩ := h.row
  have hpos := List.length_pos_iff.2 h.fine.some
  have hlen := h.fine.len
  have hg := (h.fine.ok _ (lastS_mem h.fine.some)).g
  have hb := hg.ba
  have hr := hg.re
  have ha := hg.am
  obtain ⟨g, o, rfl, z0, z1, z2, z3⟩ := sp_at hrow (last_at h.fine.some)
  have c1 := h.has.cell 1
  simp at c1
  have hlt := h.has.lt
  obtain ⟨⟨f, og, ba, re⟩, hx⟩ : ∃ x, x = lastS L := ⟨_, rfl⟩
  rw [← hx] at z0 z1 z2 z3 hb hr ha ⊢
  simp only at z0 z1 z2 z3 hb hr ha ⊢
  obtain ⟨n, hn⟩ : ∃ n, n = L.length := ⟨_, rfl⟩
  rw [← hn] at c1 hpos hlen z0 z1 z2 z3
  obtain ⟨t, ht⟩ : ∃ t, t = n - 1 := ⟨_, rfl⟩
  rw [← ht] at z0 z1 z2 z3
  have e1 : IntKind.i64.wrap ((n : Int) - 1) = (t : Int) := by rw [IntWalk.i64_in _ (by omega)]; omega
  have e2 : IntKind.i64.wrap (ba + re) = ba + re := IntWalk.i64_in _ (by omega)
  have t1 : t < n := by omega
  have i0 : (0 : Int) ≤ (t : Int) := by omega
  have i1 : (t : Int) < (n : Int) := by omega
  have glt : g < w.heap.size := World.block_lt_of_cell? (a := ⟨g, o + t * 4, none⟩) _ z0
  clear h hrow hx hn ht hpos hlen hg hb hr ha
  go_enter Try.func17, Try.ntmps17
  go_wp2_with fail
  go_region
  all_goals
    go_wp2_with fail
    go_ret
    exact ⟨rfl, (boxed _ _).drew⟩
set_option maxRecDepth 100000 in
set_option maxHeartbeats 1000000 in
theorem qwhole_any (h : TqX w r k d E L sv) (day : Int) : Calls Try.prog 19 #[.pointer (some ⟨r, 0, none⟩), .int .i64 day] w fun e w' => e = .returned (.bool (thrV d E day == thrW d)) ∧ Below w.heap.size w w' := by
  have HT := Lib.hid (qthr_any h.log day)
  unfold ThrR at HT
  have c0 := h.has.cell 0
  simp at c0
  generalize thrV d E day = v at HT ⊢
  generalize thrW d = m at HT ⊢
  clear h
  go_enter Try.func19, Try.ntmps19
  go_wp2_with fail
  refine HT.out.mono ?_
  rintro e w1 ⟨rfl, hb⟩
  have HB := Lib.hid hb
  clear hb c0
  go_wp2_with fail
  go_ret
  exact ⟨rfl, HB.out⟩
set_option maxRecDepth 100000 in
set_option maxHeartbeats 2000000 in
theorem qmay_any (h : TqX w r k d E L sv) (day : Int) : Calls Try.prog 32 #[.pointer (some ⟨r, 0, none⟩), .int .i64 day] w fun e w' => e = .returned (.int .i64 (mayS L day)) ∧ Below w.heap.size w w' := by
  have HS := Lib.hid (qsince_any h)
  obtain ⟨a, c, rfl, _⟩ := h.row
  have c1 := h.has.cell 1
  simp at c1
  have HC1 := Lib.hid c1
  unfold mayS
  generalize (lastS L).fr = s at HS ⊢
  have hl := h.fine.len
  generalize L.length = n at HC1 hl ⊢
  clear h c1
  by_cases q1 : day < 0 ∨ 1000000 < day
  · rw [if_pos q1]
    rcases q1 with q1 | q1
    · go_enter Try.func32, Try.ntmps32
      go_wp2_with fail
      go_ret
      exact ⟨rfl, Below.refl _ _⟩
    · have q2 : ¬ day < 0 := by omega
      go_enter Try.func32, Try.ntmps32
      go_wp2_with fail
      go_ret
      exact ⟨rfl, Below.refl _ _⟩
  rw [if_neg q1]
  have q1a : ¬ day < 0 := by omega
  have q1b : ¬ 1000000 < day := by omega
  clear q1
  by_cases q3 : day < s
  · rw [if_pos q3]
    go_enter Try.func32, Try.ntmps32
    go_wp2_with fail
    refine HS.out.mono ?_
    rintro e w1 ⟨rfl, hb⟩
    have HB := Lib.hid hb
    clear hb
    go_wp2_with fail
    go_ret
    exact ⟨rfl, HB.out⟩
  rw [if_neg q3]
  by_cases q4 : 50 ≤ n
  · rw [if_pos q4]
    have q4' : (50 : Int) ≤ (n : Int) := by omega
    clear q4
    go_enter Try.func32, Try.ntmps32
    go_wp2_with fail
    refine HS.out.mono ?_
    rintro e w1 ⟨rfl, hb⟩
    have HB := Lib.hid hb
    have c1 := kcell hb HC1.out
    clear hb
    go_wp2_with fail
    go_ret
    exact ⟨rfl, HB.out⟩
  rw [if_neg q4]
  have q4' : ¬ (50 : Int) ≤ (n : Int) := by omega
  clear q4
  go_enter Try.func32, Try.ntmps32
  go_wp2_with fail
  refine HS.out.mono ?_
  rintro e w1 ⟨rfl, hb⟩
  have HB := Lib.hid hb
  have c1 := kcell hb HC1.out
  clear hb
  go_wp2_with fail
  go_ret
  exact ⟨rfl, HB.out⟩
end
end Go.Proofs.Ytobdcogaphkogaa

namespace Go.Proofs.Ytobdcogaphkogaa
open Go.RowKit

theorem thrW_am {d : Dt} (h : dtB d = true) (hu : d.un ≤ 9223372036854775807) : thrW d ≤ 9223372036854775807 := by
  have := dtB_iff.1 h
  unfold thrW; (repeat' split) <;> omega
/-- what is earned, by what is done -/
theorem earS_is {d : Dt} {E : List Tl} {L : List Sp} (h : FineS L) (hE : FineT d E) (day : Int) : earV d E L day = spE (cnt L day) (thrV d E day - thrV d E (cnt L day).og) (thrW d - thrV d E (cnt L day).og) := by
  have h0 := h.origin hE day
  unfold earV earS spE
  by_cases q : thrW d = thrV d E (cnt L day).og
  · rw [if_pos q, if_pos (by omega)]
  · rw [if_neg q, if_neg (by omega), show max (thrV d E day - thrV d E (cnt L day).og) 0 = thrV d E day - thrV d E (cnt L day).og by omega]
section
variable {w : World} {O : Nat → Prop} {b p : Nat} {d : Dt} {E : List Tl} {L : List Sp} {la : Option Addr} {lc : Nat} {tv sv : Value}
set_option maxRecDepth 100000 in
set_option maxHeartbeats 4000000 in
theorem tearned_any (h : TkX w O b p d E L la lc tv sv) (day : Int) : Calls Try.prog 14 #[.pointer (some ⟨b, 0, none⟩), .int .i64 day] w fun e w' => e = .returned (.int .i64 (earV d E L day)) ∧ Below w.heap.size w w' := by
  rw [earS_is h.fine h.log.fine day]
  have HC := Lib.hid (tcount_any h day)
  have hx := h.fine.ok _ (cnt_mem h.fine.some day)
  have ho := h.fine.origin h.log.fine day
  have HS := Lib.hid (fun (n m : Int) h0 h1 h2 (W : World) => spear_any (cnt L day) hx.g n m h0 h1 h2 W)
  have HThr := Lib.hid (fun (W : World) (q : Below w.heap.size w W) (a : Int) => thr_any (h.log.up q) a)
  unfold ThrR at HThr
  have i0 := thr_in h.log.fine day
  have i1 := thr_in h.log.fine (cnt L day).og
  have i2 := thrW_am h.log.fine.may h.un
  have c0 := h.has.cell 0
  simp at c0
  have hlt := h.has.lt
  have HC0 := Lib.hid c0
  generalize cnt L day = x at HC HS ho i1 ⊢
  clear hx
  obtain ⟨f, og, ba, re⟩ := x
  unfold Sp.val at HC HS
  simp only at HC HS ho i1 ⊢
  obtain ⟨B, hB⟩ : ∃ B, B = thrV d E day := ⟨_, rfl⟩
  obtain ⟨A, hA⟩ : ∃ A, A = thrV d E og := ⟨_, rfl⟩
  have HB' := Lib.hid hB
  have HA' := Lib.hid hA
  rw [← hA] at ho i1 ⊢
  rw [← hB] at ho i0 ⊢
  generalize thrW d = m at HThr i0 i1 i2 ⊢
  have e1 : IntKind.i64.wrap (B - A) = B - A := IntWalk.i64_in _ (by omega)
  have e2 : IntKind.i64.wrap (m - A) = m - A := IntWalk.i64_in _ (by omega)
  have HS1 := Lib.hid (fun (W : World) => HS.out (B - A) (m - A) (by omega) (by omega) (by omega) W)
  generalize spE ⟨f, og, ba, re⟩ (B - A) (m - A) = v at HS1 ⊢
  clear h ho i0 i1 i2 hA hB HS c0
  go_enter Try.func14, Try.ntmps14
  go_wp2_with fail
  refine HC.out.mono ?_
  rintro e w1 ⟨rfl, hb1⟩
  have HB1 := Lib.hid hb1
  clear hb1
  go_wp2_with fail
  obtain ⟨W2, hW2⟩ : ∃ W2, W2 = w1.alloc (.cells #[.int .i64 f, .int .i64 og, .int .i64 ba, .int .i64 re] 58) := ⟨_, rfl⟩
  have hf : Has W2 w1.heap.size 58 #[.int .i64 f, .int .i64 og, .int .i64 ba, .int .i64 re] := by rw [hW2]; exact Has.fresh _ _ _
  have HB2 : Hid (Below w.heap.size w W2) := by rw [hW2]; exact Lib.hid (up2 HB1.out (boxed _ _))
  have HF := Lib.hid hf
  rw [← hW2]
  clear hf hW2 hlt
  obtain ⟨g, hg⟩ : ∃ g, g = w1.heap.size := ⟨_, rfl⟩
  rw [← hg] at HF ⊢
  have K0 : Hid (W2.drew.cell? ⟨b, 0, none⟩ = some (.pointer (some ⟨p, 0, none⟩)) ∧ W2.drew.cell? ⟨g, 1, none⟩ = some (.int .i64 og)) := Lib.hid ⟨kcell HB2.out.drew HC0.out, HF.out.cell 1⟩
  have HCall := Lib.hid (HThr.out W2.drew HB2.out.drew og)
  rw [← HA'.out] at HCall
  clear hg
  go_region_held3 (fun w' => w'.cell? ⟨b, 0, none⟩ = some (.pointer (some ⟨p, 0, none⟩)) ∧ w'.cell? ⟨g, 1, none⟩ = some (.int .i64 og))
    (first | (go_keep; done) | (with_reducible exact K0.out) | (with_reducible exact kK1.out))
    (first | (go_at_call 34; (with_reducible refine (HCall.out).mono ?_); rintro e w3 ⟨rfl, hb3⟩; have kK1 : Hid (w3.cell? ⟨b, 0, none⟩ = some (.pointer (some ⟨p, 0, none⟩)) ∧ w3.cell? ⟨g, 1, none⟩ = some (.int .i64 og)) := Lib.hid ⟨kcell hb3 K0.out.1, kcell hb3 K0.out.2⟩; have kB3 := Lib.hid (up2 HB2.out.drew hb3); have kF3 := Lib.hid ((HF.out.up (Below.refl _ _).drew).up hb3); clear hb3))
  all_goals
    have c0 := kK1.out.1
    go_wp2_with fail
    refine (HThr.out _ kB3.out day).mono ?_
    rintro e w4 ⟨rfl, hb4⟩
    rw [← HB'.out]
    have hx := kF3.out.up hb4
    have x0 := hx.cell 0
    have x1 := hx.cell 1
    have x2 := hx.cell 2
    have x3 := hx.cell 3
    simp at x0 x1 x2 x3
    have HB4 := Lib.hid (up2 kB3.out hb4)
    clear hb4 hx c0
    go_wp2_with fail
    refine (HS1.out _).mono ?_
    rintro e w5 ⟨rfl, hb5⟩
    have HB5 := Lib.hid (up2 HB4.out hb5)
    clear hb5
    go_wp2_with fail
    go_ret
    exact ⟨rfl, HB5.out⟩
end
end Go.Proofs.Ytobdcogaphkogaa
