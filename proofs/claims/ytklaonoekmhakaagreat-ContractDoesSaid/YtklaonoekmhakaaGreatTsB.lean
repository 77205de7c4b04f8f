/- The reference's track: in memory; New, Since, Allotted, Whole. -/
import Derived.Test.YtklaonoekmhakaaGreatTrC
import Derived.Test.YtklaonoekmhakaaGreatDrC
import Derived.Test.YtklaonoekmhakaaGreatRoOut
namespace Go.Proofs.YtklaonoekmhakaaGreat
open Go.RowKit

/-- the reference's track: its struct lies in block r, its log's in block k -/
structure TqX (w : World) (r k : Nat) (d : Dt) (E : List Tl) (L : List Sp) (sv : Value) : Prop where
  log : Qg w k d E
  has : Has w r 61 #[.pointer (some ⟨k, 0, none⟩), sv]
  own : w.ownsRow 0 139 4 sv L.length (L.flatMap spC)
  fine : FineS L
  un : d.un ≤ 9223372036854775807
def Tq (w : World) (r k : Nat) (d : Dt) (E : List Tl) (L : List Sp) : Prop := ∃ sv, TqX w r k d E L sv
/-- it goes on, and nothing else has turned -/
def TqR (w : World) (r k : Nat) (d : Dt) (E : List Tl) (L : List Sp) (w' : World) : Prop := Tq w' r k d E L ∧ Kp (fun g => g = r ∨ g = k) w w'
section
variable {w w' w2 : World} {O : Nat → Prop} {r k : Nat} {d : Dt} {E : List Tl} {L : List Sp} {sv : Value}
theorem TqX.up (h : TqX w r k d E L sv) (q : Below w.heap.size w w') : TqX w' r k d E L sv := ⟨h.log.up q, h.has.up q, own_up h.own q, h.fine, h.un⟩
theorem Tq.up (h : Tq w r k d E L) (q : Below w.heap.size w w') : Tq w' r k d E L := by obtain ⟨sv, h⟩ := h; exact ⟨sv, h.up q⟩
theorem TqR.same (h : Tq w r k d E L) (q : Below w.heap.size w w') : TqR w r k d E L w' := ⟨h.up q, Kp.of q⟩
theorem TqR.from (hb : Below w.heap.size w w') (h : TqR w' r k d E L w2) : TqR w r k d E L w2 := ⟨h.1, (Kp.of hb).trans h.2 (fun _ q => .inl q)⟩
theorem TqX.row (h : TqX w r k d E L sv) : ∃ a c, sv = .slice a L.length c ∧ SpA w a L := by
  obtain ⟨a, c, e, _⟩ := own_form3 h.own
  subst e
  exact ⟨a, c, rfl, (own_rws sp_len h.own rfl).1⟩
/-- what turns elsewhere leaves it -/
theorem Tq.keep (h : Tq w r k d E L) (hs : ∀ g T cs, Has w g T cs → T = 61 ∨ T = 57 ∨ T = 145 ∨ T = 139 ∨ T = 3 → (T = 61 → g = r) → (T = 57 → g = k) → Has w' g T cs) : Tq w' r k d E L := by
  obtain ⟨sv, h⟩ := h
  obtain ⟨la, lc, tv, hq⟩ := h.log
  have own1 : ∀ {T B z n : Nat} {v : Value} {xs : List Value}, T = 145 ∨ T = 139 → w.ownsRow B T z v n xs → w'.ownsRow B T z v n xs := fun {T B z n v xs} hT ho => by
    refine ⟨ho.1, ?_⟩
    rcases ho.2 with q | ⟨g, cap, cur, e, q3, q4, q5⟩
    · exact .inl q
    · refine .inr ⟨g, cap, cur, e, q3, hs g T cur q4 ?_ ?_ ?_, q5⟩
      · rcases hT with rfl | rfl <;> decide
      · rcases hT with rfl | rfl <;> intro e <;> contradiction
      · rcases hT with rfl | rfl <;> intro e <;> contradiction
  exact ⟨sv, ⟨la, lc, tv, hs _ _ _ hq.has (by decide) (fun e => by contradiction) (fun _ => rfl), own1 (.inl rfl) hq.own, hq.fine, hq.lns.keepT fun g cs hh => hs g _ cs hh (by decide) (fun e => by contradiction) (fun e => by contradiction)⟩, hs _ _ _ h.has (by decide) (fun _ => rfl) (fun e => by contradiction), own1 (.inr rfl) h.own, h.fine, h.un⟩
theorem Tq.oth (h : Tq w r k d E L) (hO : Oth15 w w') : Tq w' r k d E L :=
  h.keep fun g T cs hh hT _ _ => hO g T cs hh (by rcases hT with rfl | rfl | rfl | rfl | rfl <;> decide) (by rcases hT with rfl | rfl | rfl | rfl | rfl <;> decide) (by rcases hT with rfl | rfl | rfl | rfl | rfl <;> decide) (by rcases hT with rfl | rfl | rfl | rfl | rfl <;> decide)
set_option maxRecDepth 100000 in
set_option maxHeartbeats 4000000 in
theorem qsince_any (h : TqX w r k d E L sv) : Calls Tryz.prog 118 #[.pointer (some ⟨r, 0, none⟩)] w fun e w' => e = .returned (.int .i64 (lastS L).fr) ∧ Below w.heap.size w w' := by
  obtain ⟨a, c, rfl, hrow⟩ := h.row
  have hpos := List.length_pos_iff.2 h.fine.some
  have hlen := h.fine.len
  obtain ⟨g, o, rfl, z0, z1, z2, z3⟩ := sp_at hrow (sp_last h.fine.some)
  have c1 := h.has.cell 1
  simp at c1
  obtain ⟨⟨f, og, ba, re⟩, hx⟩ : ∃ x, x = lastS L := ⟨_, rfl⟩
  rw [← hx] at z0 z1 z2 z3 ⊢
  simp only at z0 z1 z2 z3 ⊢
  obtain ⟨n, hn⟩ : ∃ n, n = L.length := ⟨_, rfl⟩
  rw [← hn] at c1 hpos hlen z0 z1 z2 z3
  obtain ⟨t, ht⟩ : ∃ t, t = n - 1 := ⟨_, rfl⟩
  rw [← ht] at z0 z1 z2 z3
  have e1 : IntKind.i64.wrap ((n : Int) - 1) = (t : Int) := by rw [IntWalk.i64_in _ (by omega)]; omega
  have t1 : t < n := by omega
  have i0 : (0 : Int) ≤ (t : Int) := by omega
  have i1 : (t : Int) < (n : Int) := by omega
  clear h hrow hx hn ht hpos hlen z1 z2 z3
  go_enter Tryz.func118, Tryz.ntmps118
  go_wp2_with fail
  go_region
  all_goals
    go_wp2_with fail
    go_ret
    exact ⟨rfl, (Below.refl _ _).drew⟩
set_option maxRecDepth 100000 in
set_option maxHeartbeats 4000000 in
theorem qallot_any (h : TqX w r k d E L sv) : Calls Tryz.prog 47 #[.pointer (some ⟨r, 0, none⟩)] w fun e w' => e = .returned (.int .i64 (altV L)) ∧ Below w.heap.size w w' := by
  unfold altV
  obtain ⟨a, c, rfl, hrow⟩ := h.row
  have hpos := List.length_pos_iff.2 h.fine.some
  have hlen := h.fine.len
  have hg := (h.fine.ok _ (lastS_mem h.fine.some)).g
  have hb := hg.ba
  have hr := hg.re
  have ha := hg.am
  obtain ⟨g, o, rfl, z0, z1, z2, z3⟩ := sp_at hrow (sp_last h.fine.some)
  have c1 := h.has.cell 1
  simp at c1
  have hlt := h.has.lt
  obtain ⟨⟨f, og, ba, re⟩, hx⟩ : ∃ x, x = lastS L := ⟨_, rfl⟩
  rw [← hx] at z0 z1 z2 z3 hb hr ha ⊢
  simp only at z0 z1 z2 z3 hb hr ha ⊢
  obtain ⟨n, hn⟩ : ∃ n, n = L.length := ⟨_, rfl⟩
  rw [← hn] at c1 hpos hlen z0 z1 z2 z3
  obtain ⟨t, ht⟩ : ∃ t, t = n - 1 := ⟨_, rfl⟩
  rw [← ht] at z0 z1 z2 z3
  have e1 : IntKind.i64.wrap ((n : Int) - 1) = (t : Int) := by rw [IntWalk.i64_in _ (by omega)]; omega
  have e2 : IntKind.i64.wrap (ba + re) = ba + re := IntWalk.i64_in _ (by omega)
  have t1 : t < n := by omega
  have i0 : (0 : Int) ≤ (t : Int) := by omega
  have i1 : (t : Int) < (n : Int) := by omega
  have glt : g < w.heap.size := World.block_lt_of_cell? (a := ⟨g, o + t * 4, none⟩) _ z0
  clear h hrow hx hn ht hpos hlen hg hb hr ha
  go_enter Tryz.func47, Tryz.ntmps47
  go_wp2_with fail
  go_region
  all_goals
    go_wp2_with fail
    go_ret
    exact ⟨rfl, (boxed _ _).drew⟩
set_option maxRecDepth 100000 in
set_option maxHeartbeats 1000000 in
theorem qwhole_any (h : TqX w r k d E L sv) (day : Int) : Calls Tryz.prog 38 #[.pointer (some ⟨r, 0, none⟩), .int .i64 day] w fun e w' => e = .returned (.bool (thrV d E day == thrW d)) ∧ Below w.heap.size w w' := by
  have HT := Lib.hid (qthr_any h.log day)
  unfold ThrR at HT
  have c0 := h.has.cell 0
  simp at c0
  generalize thrV d E day = v at HT ⊢
  generalize thrW d = m at HT ⊢
  clear h
  go_enter Tryz.func38, Tryz.ntmps38
  go_wp2_with fail
  refine HT.out.mono ?_
  rintro e w1 ⟨rfl, hb⟩
  have HB := Lib.hid hb
  clear hb c0
  go_wp2_with fail
  go_ret
  exact ⟨rfl, HB.out⟩
set_option maxRecDepth 100000 in
set_option maxHeartbeats 2000000 in
theorem qmay15_any (h : TqX w r k d E L sv) (day : Int) : Calls Tryz.prog 83 #[.pointer (some ⟨r, 0, none⟩), .int .i64 day] w fun e w' => e = .returned (.int .i64 (mayS L day)) ∧ Below w.heap.size w w' := by
  have HS := Lib.hid (qsince_any h)
  obtain ⟨a, c, rfl, _⟩ := h.row
  have c1 := h.has.cell 1
  simp at c1
  have HC1 := Lib.hid c1
  unfold mayS
  generalize (lastS L).fr = s at HS ⊢
  have hl := h.fine.len
  generalize L.length = n at HC1 hl ⊢
  clear h c1
  by_cases q1 : day < 0 ∨ 1000000 < day
  · rw [if_pos q1]
    rcases q1 with q1 | q1
    · go_enter Tryz.func83, Tryz.ntmps83
      go_wp2_with fail
      go_ret
      exact ⟨rfl, Below.refl _ _⟩
    · have q2 : ¬ day < 0 := by omega
      go_enter Tryz.func83, Tryz.ntmps83
      go_wp2_with fail
      go_ret
      exact ⟨rfl, Below.refl _ _⟩
  rw [if_neg q1]
  have q1a : ¬ day < 0 := by omega
  have q1b : ¬ 1000000 < day := by omega
  clear q1
  by_cases q3 : day < s
  · rw [if_pos q3]
    go_enter Tryz.func83, Tryz.ntmps83
    go_wp2_with fail
    refine HS.out.mono ?_
    rintro e w1 ⟨rfl, hb⟩
    have HB := Lib.hid hb
    clear hb
    go_wp2_with fail
    go_ret
    exact ⟨rfl, HB.out⟩
  rw [if_neg q3]
  by_cases q4 : 50 ≤ n
  · rw [if_pos q4]
    have q4' : (50 : Int) ≤ (n : Int) := by omega
    clear q4
    go_enter Tryz.func83, Tryz.ntmps83
    go_wp2_with fail
    refine HS.out.mono ?_
    rintro e w1 ⟨rfl, hb⟩
    have HB := Lib.hid hb
    have c1 := kcell hb HC1.out
    clear hb
    go_wp2_with fail
    go_ret
    exact ⟨rfl, HB.out⟩
  rw [if_neg q4]
  have q4' : ¬ (50 : Int) ≤ (n : Int) := by omega
  clear q4
  go_enter Tryz.func83, Tryz.ntmps83
  go_wp2_with fail
  refine HS.out.mono ?_
  rintro e w1 ⟨rfl, hb⟩
  have HB := Lib.hid hb
  have c1 := kcell hb HC1.out
  clear hb
  go_wp2_with fail
  go_ret
  exact ⟨rfl, HB.out⟩
end
end Go.Proofs.YtklaonoekmhakaaGreat

namespace Go.Proofs.YtklaonoekmhakaaGreat
open Go.RowKit

section
variable {w : World} {d : Dt} {a : Option Addr} {c : Nat}
theorem Tq.made {w' : World} {k : Nat} {n : Int} (h : Qg w' k d []) (h0 : 0 ≤ n) (h1 : n ≤ 9223372036854775807) (hu : d.un ≤ 9223372036854775807) :
    Tq ((w'.alloc (.cells #[.int .i64 0, .int .i64 0, .int .i64 0, .int .i64 n] 139)).alloc (.cells #[.pointer (some ⟨k, 0, none⟩), .slice (some ⟨w'.heap.size, 0, none⟩) 1 1] 61)) (w'.heap.size + 1) k d [] [⟨0, 0, 0, n⟩] := by
  have hb1 := boxed w' (.cells #[.int .i64 0, .int .i64 0, .int .i64 0, .int .i64 n] 139)
  have hb2 := boxed (w'.alloc (.cells #[.int .i64 0, .int .i64 0, .int .i64 0, .int .i64 n] 139)) (.cells #[.pointer (some ⟨k, 0, none⟩), .slice (some ⟨w'.heap.size, 0, none⟩) 1 1] 61)
  have hs := (Has.fresh w' 139 #[.int .i64 0, .int .i64 0, .int .i64 0, .int .i64 n]).up hb2
  have ht := Has.fresh (w'.alloc (.cells #[.int .i64 0, .int .i64 0, .int .i64 0, .int .i64 n] 139)) 61 #[.pointer (some ⟨k, 0, none⟩), .slice (some ⟨w'.heap.size, 0, none⟩) 1 1]
  rw [show (w'.alloc (.cells #[.int .i64 0, .int .i64 0, .int .i64 0, .int .i64 n] 139)).heap.size = w'.heap.size + 1 by simp] at ht
  exact ⟨_, (h.up hb1).up hb2, ht, ⟨rfl, .inr ⟨w'.heap.size, 1, _, rfl, Nat.zero_le _, hs, Nat.le_refl _, by unfold maxLen; omega, rfl, rfl⟩⟩, FineS.start n h0 h1, hu⟩
set_option maxRecDepth 100000 in
set_option maxHeartbeats 2000000 in
theorem qtrnew_yes (n : Int) (hls : NsI w a d.ls) (hd : dtB d = true) (h0 : 0 ≤ n) (hn : Am n) (hu : Am d.un) : Calls Tryz.prog 74 #[d.val a c, .int .i64 n] w fun e w' => ∃ r k, e = .returned (.tuple #[.pointer (some ⟨r, 0, none⟩), .int .i64 0]) ∧ Tq w' r k d [] [⟨0, 0, 0, n⟩] ∧ Below w.heap.size w w' ∧ w.heap.size ≤ r ∧ w.heap.size ≤ k := by
  have HN := Lib.hid (fun (W : World) (q : Below w.heap.size w W) => qtn_yes (w := W) (d := d) (a := a) (c := c) hd (hls.up q))
  have HM := Lib.hid (fun (w' : World) (k : Nat) (h : Qg w' k d []) => Tq.made h h0 hn.2 hu.2)
  unfold Dt.val at HN ⊢
  generalize d.ls.length = m at HN ⊢
  clear hd hu hn hls
  go_enter Tryz.func74, Tryz.ntmps74
  go_wp2_with fail
  refine (HN.out _ (boxed _ _)).mono ?_
  rintro e w1 ⟨k, rfl, hs, hb, hp⟩
  have HF := Lib.hid (HM.out _ _ hs)
  have hb2 := up2 (boxed w (.cells #[.slice a m c, .int .i64 d.al, .int .i64 d.un, .int .i64 d.me, .int .i64 d.fi, .int .i64 d.la] 51)) hb
  have HB := Lib.hid hb2
  have HP : Hid (w.heap.size ≤ k) := Lib.hid (Nat.le_trans (by simp) hp)
  clear hs hp hb hb2
  go_wp2_with fail
  go_ret2
  exact ⟨_, _, rfl, HF.out, up2 HB.out (up2 (boxed _ _) (boxed _ _)), Nat.le_succ_of_le HB.out.size, HP.out⟩
end
section
variable {w : World} {r k : Nat} {d : Dt} {E : List Tl} {L : List Sp} {sv : Value}
theorem cntS_take {L : List Sp} {day : Int} {i : Nat} {x y : Sp} (hy : L[i]? = some y) : cntS day x (L.take (i + 1)) = if y.fr ≤ day then y else cntS day x (L.take i) := by
  rw [List.take_add_one, hy]
  exact cntS_app day x y _
set_option maxRecDepth 100000 in
set_option maxHeartbeats 8000000 in
theorem qearned_any (h : TqX w r k d E L sv) (day : Int) : Calls Tryz.prog 37 #[.pointer (some ⟨r, 0, none⟩), .int .i64 day] w fun e w' => e = .returned (.int .i64 (earV d E L day)) ∧ Below w.heap.size w w' := by
  obtain ⟨a, c, rfl, hrow⟩ := h.row
  have hF := h.fine
  have hlen := hF.len
  have hpos := List.length_pos_iff.2 hF.some
  have HThr := Lib.hid (fun (W : World) (q : Below w.heap.size w W) (x : Int) => qthr_any (h.log.up q) x)
  unfold ThrR at HThr
  have HFS := Lib.hid hF
  have HFT := Lib.hid h.log.fine
  have HUn := Lib.hid h.un
  have HR := Lib.hid hrow
  have c0 := h.has.cell 0
  have c1 := h.has.cell 1
  have hlt := h.has.lt
  simp at c0 c1
  have HC0 := Lib.hid c0
  have HC1 := Lib.hid c1
  obtain ⟨n, hn⟩ : ∃ n, n = L.length := ⟨_, rfl⟩
  have HN := Lib.hid hn
  rw [← hn] at c1 hlen hpos HC1
  obtain ⟨x0, hx0⟩ : ∃ x, L[0]? = some x := ⟨L[0]'(by rw [← hn]; exact hpos), List.getElem?_eq_getElem _⟩
  have hhd : L.headD sp0 = x0 := by
    cases L with
    | nil => simp at hx0
    | cons y l => simpa using hx0
  have HHd := Lib.hid hhd
  obtain ⟨g, o, rfl, z0, z1, z2, z3⟩ := sp_at hrow hx0
  obtain ⟨f0, o0, b0, r0⟩ := x0
  simp only at z0 z1 z2 z3
  rw [Nat.zero_mul, Nat.add_zero] at z0 z1 z2 z3
  have i1 : (0 : Int) < (n : Int) := by omega
  have glt : g < w.heap.size := World.block_lt_of_cell? (a := ⟨g, o, none⟩) _ z0
  obtain ⟨V0, hV0⟩ : ∃ V0, V0 = earV d E L day := ⟨_, rfl⟩
  rw [← hV0]
  have HV0 := Lib.hid hV0
  clear h hrow hn hx0 hhd hF hV0
  go_enter Tryz.func37, Tryz.ntmps37
  go_wp2_with fail
  obtain ⟨W0, hW0⟩ : ∃ W0, W0 = w.alloc (.cells #[.int .i64 f0, .int .i64 o0, .int .i64 b0, .int .i64 r0] 139) := ⟨_, rfl⟩
  have HY0 : Hid (Has W0 w.heap.size 139 #[.int .i64 f0, .int .i64 o0, .int .i64 b0, .int .i64 r0]) := by rw [hW0]; exact Lib.hid (Has.fresh _ _ _)
  have HB0 : Hid (Below w.heap.size w W0) := by rw [hW0]; exact Lib.hid (boxed _ _)
  rw [← hW0]
  obtain ⟨y, hy⟩ : ∃ y, y = w.heap.size := ⟨_, rfl⟩
  rw [← hy] at HY0 ⊢
  have HYe := Lib.hid hy
  clear hW0 hy z0 z1 z2 z3 i1 glt c0 c1 hlt hpos
  go_loopw [6] (fun i wr => ∃ j : Nat, j ≤ n ∧ i = .int .i64 (j : Int) ∧ Below w.heap.size w wr ∧ ∃ x, x = cntS day ⟨f0, o0, b0, r0⟩ (L.take j) ∧ Has wr y 139 #[.int .i64 x.fr, .int .i64 x.og, .int .i64 x.ba, .int .i64 x.re]) (fun i _ => n - (intOf i).toNat)
  case atStart => exact ⟨0, Nat.zero_le _, rfl, HB0.out, _, rfl, HY0.out⟩
  case round =>
    obtain ⟨j, hj, rfl, hb, x, hx, hY⟩ := hrel
    have HB := Lib.hid hb
    have HX := Lib.hid hx
    have HY := Lib.hid hY
    have c1 := kcell hb HC1.out
    clear hb hx hY
    obtain ⟨f, og, ba, re⟩ := x
    simp only at HY
    by_cases hlt : j < n
    · obtain ⟨v, hv⟩ : ∃ v, L[j]? = some v := ⟨L[j]'(by rw [← HN.out]; exact hlt), List.getElem?_eq_getElem _⟩
      have HSt := Lib.hid (cntS_take (day := day) (x := ⟨f0, o0, b0, r0⟩) hv)
      obtain ⟨g', o', e', z0, z1, z2, z3⟩ := sp_at (HR.out.up HB.out) hv
      injection e' with e'
      injection e' with e1 e2
      subst e1; subst e2
      obtain ⟨F, OG, BA, RE⟩ := v
      simp only at z0 z1 z2 z3 HSt
      have i0 : (0 : Int) ≤ (j : Int) := by omega
      have i1 : (j : Int) < (n : Int) := by omega
      have e1 : IntKind.i64.wrap ((j : Int) + 1) = (j : Int) + 1 := IntWalk.i64_in _ (by omega)
      clear hv
      by_cases q : F ≤ day
      · have hy := HY.out
        have y0 := hy.cell 0
        have y1 := hy.cell 1
        have y2 := hy.cell 2
        have y3 := hy.cell 3
        have u0 := hy.free 0
        have u1 := hy.free 1
        have u2 := hy.free 2
        have u3 := hy.free 3
        simp at y0 y1 y2 y3
        have HF := Lib.hid (put4_has HY.out (.int .i64 F) (.int .i64 OG) (.int .i64 BA) (.int .i64 RE))
        have HG := Lib.hid (HB.out.grown (put4_grown wr y (.int .i64 F) (.int .i64 OG) (.int .i64 BA) (.int .i64 RE)) HB.out.size (fun q hq => by injection hq with hq; have := HYe.out; omega))
        have HQ := Lib.hid q
        clear hy
        go_wp2_with fail
        exact ⟨⟨j + 1, by omega, by go_num, HG.out, ⟨F, OG, BA, RE⟩, by rw [HSt.out, if_pos HQ.out], HF.out⟩, by simp [intOf]; omega⟩
      · have HQ := Lib.hid q
        go_wp2_with fail
        go_roundw
        case rel => exact ⟨j + 1, by omega, by go_num, HB.out, ⟨f, og, ba, re⟩, by rw [HSt.out, if_neg HQ.out]; exact HX.out, HY.out⟩
        case measure => simp [intOf]; omega
    · obtain rfl : j = n := by omega
      have hc : cnt L day = ⟨f, og, ba, re⟩ := by
        unfold cnt
        rw [HHd.out, HX.out, HN.out, List.take_length]
      have hv : V0 = earS d E ⟨f, og, ba, re⟩ day := by rw [HV0.out]; unfold earV; rw [hc]
      have hok := HFS.out.ok _ (cnt_mem HFS.out.some day)
      rw [hc] at hok
      have g1 := hok.ba
      have g2 := hok.re
      have g3 := hok.am
      simp only at g1 g2 g3
      have i0 := thr_in HFT.out day
      have i1 := thr_in HFT.out og
      have i2 := thrW_am HFT.out.may HUn.out
      unfold earS at hv
      simp only at hv
      obtain ⟨B, hB⟩ : ∃ B, B = thrV d E day := ⟨_, rfl⟩
      obtain ⟨A, hA⟩ : ∃ A, A = thrV d E og := ⟨_, rfl⟩
      have HB' := Lib.hid hB
      have HA' := Lib.hid hA
      rw [← hB] at i0 hv
      rw [← hA] at i1 hv
      generalize thrW d = m at HThr i0 i1 i2 hv
      have HVV := Lib.hid hv
      have c0 := kcell HB.out HC0.out
      have HCall := Lib.hid (HThr.out wr HB.out day)
      rw [← HB'.out] at HCall
      have I0 := Lib.hid i0
      have I1 := Lib.hid i1
      have I2 := Lib.hid i2
      have G := Lib.hid (And.intro g1 (And.intro g2 g3))
      clear hlt hc hv hok hA hB i0 i1 i2 g1 g2 g3
      go_wp2_with fail
      refine HCall.out.mono ?_
      rintro e w3 ⟨rfl, hb3⟩
      have HB3 := Lib.hid (up2 HB.out hb3)
      have HY3 := Lib.hid (HY.out.up hb3)
      clear hb3 c0 c1
      go_wp2_with fail
      have K0 : Hid (w3.drew.cell? ⟨r, 0, none⟩ = some (.pointer (some ⟨k, 0, none⟩)) ∧ w3.drew.cell? ⟨y, 1, none⟩ = some (.int .i64 og)) := Lib.hid ⟨kcell HB3.out.drew HC0.out, HY3.out.cell 1⟩
      have HCall2 := Lib.hid (HThr.out w3.drew HB3.out.drew og)
      rw [← HA'.out] at HCall2
      go_region_held3 (fun w' => w'.cell? ⟨r, 0, none⟩ = some (.pointer (some ⟨k, 0, none⟩)) ∧ w'.cell? ⟨y, 1, none⟩ = some (.int .i64 og))
        (first | (go_keep; done) | (with_reducible exact K0.out) | (with_reducible exact kK1.out))
        (first | (go_at_call 78; (with_reducible refine (HCall2.out).mono ?_); rintro e w4 ⟨rfl, hb4⟩; have kK1 : Hid (w4.cell? ⟨r, 0, none⟩ = some (.pointer (some ⟨k, 0, none⟩)) ∧ w4.cell? ⟨y, 1, none⟩ = some (.int .i64 og)) := Lib.hid ⟨kcell hb4 K0.out.1, kcell hb4 K0.out.2⟩; have kB4 := Lib.hid (up2 HB3.out.drew hb4); have kY4 := Lib.hid ((HY3.out.up (Below.refl _ _).drew).up hb4); clear hb4))
      all_goals
        have hx := kY4.out
        have x2 := hx.cell 2
        have x3 := hx.cell 3
        simp at x2 x3
        have g := G.out
        have i0 := I0.out
        have i1 := I1.out
        have i2 := I2.out
        by_cases q : m = A
        · have hvv : V0 = ba + re := by rw [HVV.out, if_pos q]
          have HVe := Lib.hid hvv
          have q' : (m == A) = true := by simpa using q
          have e1 : IntKind.i64.wrap (ba + re) = ba + re := IntWalk.i64_in _ (by omega)
          clear q hx g i0 i1 i2 hvv
          go_wp2_with fail
          go_ret
          exact ⟨by rw [HVe.out]; rfl, kB4.out⟩
        · have hvv : V0 = ba + re * max (B - A) 0 / (m - A) := by rw [HVV.out, if_neg q]
          have q' : (m == A) = false := by simpa using q
          have e1 : IntKind.i64.wrap (B - A) = B - A := IntWalk.i64_in _ (by omega)
          have e2 : IntKind.i64.wrap (m - A) = m - A := IntWalk.i64_in _ (by omega)
          obtain ⟨P, hP⟩ : ∃ P, P = max (B - A) 0 := ⟨_, rfl⟩
          have hp := pos_part (re := re) (p := P) (W := m - A) g.2.1 (by omega) (by omega) (by omega)
          have HPart := Lib.hid (fun (W : World) => rpart_any re P (m - A) W (by unfold Am; omega) (by omega) (by unfold Am; omega) (by omega) (by unfold Am; omega))
          rw [tellV_in (show Am (re * P / (m - A)) by unfold Am; omega), tellE_in (show Am (re * P / (m - A)) by unfold Am; omega)] at HPart
          rw [← hP] at hvv
          obtain ⟨V, hV⟩ : ∃ V, V = re * P / (m - A) := ⟨_, rfl⟩
          rw [← hV] at hp HPart hvv
          have HVe := Lib.hid hvv
          have e3 : IntKind.i64.wrap (ba + V) = ba + V := IntWalk.i64_in _ (by omega)
          have HP := Lib.hid hP
          clear q hx g i0 i1 i2 hp hV hP hvv
          go_wp2_with fail
          rw [← HP.out]
          refine (HPart.out _).mono ?_
          rintro e w5 ⟨rfl, hb5⟩
          have x2 := kcell hb5 x2
          have HB5 := Lib.hid (up2 kB4.out hb5)
          clear hb5
          go_wp2_with fail
          go_ret
          exact ⟨by rw [HVe.out]; rfl, HB5.out⟩
end
end Go.Proofs.YtklaonoekmhakaaGreat
