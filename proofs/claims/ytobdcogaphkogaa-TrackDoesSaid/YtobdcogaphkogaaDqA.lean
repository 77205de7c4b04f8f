/- The reference's log: in memory; New, Through. -/
import Derived.Test.YtobdcogaphkogaaDnE
import Derived.Test.YtobdcogaphkogaaSm
namespace Go.Proofs.Ytobdcogaphkogaa
open Go.RowKit

structure QgX (w : World) (r : Nat) (d : Dt) (E : List Tl) (la : Option Addr) (lc : Nat) (tv : Value) : Prop where
  has : Has w r 65 #[.slice la d.ls.length lc, .int .i64 d.al, .int .i64 d.un, .int .i64 d.me, .int .i64 d.fi, .int .i64 d.la, tv]
  own : w.ownsRow 0 67 2 tv E.length (E.flatMap tlC)
  fine : FineT d E
def Qg (w : World) (r : Nat) (d : Dt) (E : List Tl) : Prop := ∃ la lc tv, QgX w r d E la lc tv
section
variable {w w' : World} {r : Nat} {d : Dt} {E : List Tl} {la : Option Addr} {lc : Nat} {tv : Value}
theorem QgX.up (h : QgX w r d E la lc tv) (q : Below w.heap.size w w') : QgX w' r d E la lc tv := ⟨h.has.up q, own_up h.own q, h.fine⟩
theorem Qg.up (h : Qg w r d E) (q : Below w.heap.size w w') : Qg w' r d E := by obtain ⟨la, lc, tv, h⟩ := h; exact ⟨la, lc, tv, h.up q⟩
theorem Qg.lt (h : Qg w r d E) : r < w.heap.size := by obtain ⟨la, lc, tv, h⟩ := h; exact h.has.lt
theorem Qg.fine (h : Qg w r d E) : FineT d E := by obtain ⟨la, lc, tv, h⟩ := h; exact h.fine
theorem QgX.row (h : QgX w r d E la lc tv) : ∃ a c, tv = .slice a E.length c ∧ TlA w a E := by
  obtain ⟨a, c, e, _⟩ := own_form3 h.own
  subst e
  exact ⟨a, c, rfl, (own_rws tl_len h.own rfl).1⟩
end
section
variable {w : World} {d : Dt} {a : Option Addr} {c : Nat}
set_option maxRecDepth 100000 in
set_option maxHeartbeats 4000000 in
theorem qtn_no (hd : dtB d = false) : Calls Try.prog 28 #[d.val a c] w fun e w' => e = .returned (.tuple #[.pointer none, .int .i64 1]) ∧ Below w.heap.size w w' := by
  have hn : ¬ (0 ≤ d.me ∧ d.me ≤ 3 ∧ 1 ≤ d.un ∧ 1 ≤ d.fi ∧ d.la ≤ 1000000 ∧ d.fi ≤ d.la) := fun h => by rw [dtB_iff.2 h] at hd; cases hd
  obtain ⟨ls, al, un, me, fi, la⟩ := d
  unfold Dt.val
  simp only at hn ⊢
  generalize ls.length = n
  clear hd
  by_cases h1 : me < 0
  · clear hn
    go_enter Try.func28, Try.ntmps28
    go_wp2_with fail
    go_ret2
    exact ⟨rfl, boxed _ _⟩
  by_cases h2 : 3 < me
  · clear hn
    go_enter Try.func28, Try.ntmps28
    go_wp2_with fail
    go_ret2
    exact ⟨rfl, boxed _ _⟩
  by_cases h3 : un < 1
  · clear hn
    go_enter Try.func28, Try.ntmps28
    go_wp2_with fail
    go_ret2
    exact ⟨rfl, boxed _ _⟩
  by_cases h4 : fi < 1
  · clear hn
    go_enter Try.func28, Try.ntmps28
    go_wp2_with fail
    go_ret2
    exact ⟨rfl, boxed _ _⟩
  by_cases h5 : la < fi
  · clear hn
    go_enter Try.func28, Try.ntmps28
    go_wp2_with fail
    go_ret2
    exact ⟨rfl, boxed _ _⟩
  by_cases h6 : 1000000 < la
  · clear hn
    go_enter Try.func28, Try.ntmps28
    go_wp2_with fail
    go_ret2
    exact ⟨rfl, boxed _ _⟩
  exfalso; omega
set_option maxRecDepth 100000 in
set_option maxHeartbeats 2000000 in
theorem qtn_yes (hd : dtB d = true) : Calls Try.prog 28 #[d.val a c] w fun e w' => ∃ r, e = .returned (.tuple #[.pointer (some ⟨r, 0, none⟩), .int .i64 0]) ∧ Qg w' r d [] ∧ Below w.heap.size w w' ∧ w.heap.size ≤ r := by
  have hn := dtB_iff.1 hd
  have HF := Lib.hid (FineT.nil hd)
  obtain ⟨ls, al, un, me, fi, la⟩ := d
  unfold Dt.val
  simp only at hn ⊢
  obtain ⟨n, hnn⟩ : ∃ n, n = ls.length := ⟨_, rfl⟩
  rw [← hnn]
  have HN := Lib.hid hnn
  have h1 : ¬ me < 0 := by omega
  have h2 : ¬ 3 < me := by omega
  have h3 : ¬ un < 1 := by omega
  have h4 : ¬ fi < 1 := by omega
  have h5 : ¬ la < fi := by omega
  have h6 : ¬ 1000000 < la := by omega
  clear hd hn hnn
  go_enter Try.func28, Try.ntmps28
  go_wp2_with fail
  go_ret2
  refine ⟨_, rfl, ⟨a, c, .slice none 0 0, ?_, World.ownsRow_nil _ _ _ _, HF.out⟩, up2 (boxed _ _) (boxed _ _), by simp⟩
  rw [← HN.out]
  have := Has.fresh (w.alloc (.cells #[.slice a n c, .int .i64 al, .int .i64 un, .int .i64 me, .int .i64 fi, .int .i64 la] 24)) 65 #[.slice a n c, .int .i64 al, .int .i64 un, .int .i64 me, .int .i64 fi, .int .i64 la, .slice none 0 0]
  rw [show (w.alloc (.cells #[.slice a n c, .int .i64 al, .int .i64 un, .int .i64 me, .int .i64 fi, .int .i64 la] 24)).heap.size = w.heap.size + 1 by simp] at this
  exact this
end
section
variable {w : World} {r : Nat} {d : Dt} {E : List Tl} {la : Option Addr} {lc : Nat} {tv : Value}
set_option maxRecDepth 100000 in
set_option maxHeartbeats 4000000 in
theorem qthr_rat (h : QgX w r d E la lc tv) (day : Int) (m0 : d.me = 0) : Calls Try.prog 36 #[.pointer (some ⟨r, 0, none⟩), .int .i64 day] w (ThrR w d E day) := by
  have hd := dtB_iff.1 h.fine.may
  have hv : thrV d E day = if day < d.fi then 0 else min day d.la - d.fi + 1 := by
    unfold thrV; rw [if_neg (by omega), if_neg (by omega), if_neg (by omega)]
    split
    · rfl
    · split <;> omega
  have hw : thrW d = d.la - d.fi + 1 := by unfold thrW; rw [if_neg (by omega), if_neg (by omega), if_neg (by omega)]
  unfold ThrR
  rw [hv, hw]
  have hh := h.has
  obtain ⟨ls, al, un, me, fi, la2⟩ := d
  simp only at hh hd m0 ⊢
  generalize ls.length = n at hh
  have c0 := hh.cell 0
  have c1 := hh.cell 1
  have c2 := hh.cell 2
  have c3 := hh.cell 3
  have c4 := hh.cell 4
  have c5 := hh.cell 5
  simp at c0 c1 c2 c3 c4 c5
  rw [m0] at c3
  have e1 : IntKind.i64.wrap (la2 - fi) = la2 - fi := IntWalk.i64_in _ (by omega)
  have e2 : IntKind.i64.wrap (la2 - fi + 1) = la2 - fi + 1 := IntWalk.i64_in _ (by omega)
  by_cases q : day < fi
  · rw [if_pos q]
    clear h hv hw hh hd m0
    go_enter Try.func36, Try.ntmps36
    go_wp2_with fail
    go_quiet (fail)
    go_wp2_with fail
    go_ret2
    exact ⟨rfl, blw (boxed _ _) _⟩
  · rw [if_neg q]
    have q' : fi ≤ day := by omega
    have e3 : IntKind.i64.wrap (min day la2 - fi) = min day la2 - fi := IntWalk.i64_in _ (by omega)
    have e4 : IntKind.i64.wrap (min day la2 - fi + 1) = min day la2 - fi + 1 := IntWalk.i64_in _ (by omega)
    clear h hv hw hh hd m0 q
    go_enter Try.func36, Try.ntmps36
    go_wp2_with fail
    go_quiet (fail)
    go_wp2_with fail
    go_ret2
    exact ⟨rfl, blw (boxed _ _) _⟩
set_option maxRecDepth 100000 in
set_option maxHeartbeats 4000000 in
theorem qthr_point (h : QgX w r d E la lc tv) (day : Int) (m1 : d.me = 1) : Calls Try.prog 36 #[.pointer (some ⟨r, 0, none⟩), .int .i64 day] w (ThrR w d E day) := by
  have hv : thrV d E day = if day < d.fi then 0 else 1 := by
    unfold thrV; rw [if_neg (by omega), if_neg (by omega), if_pos m1]
  have hw : thrW d = 1 := by unfold thrW; rw [if_neg (by omega), if_neg (by omega), if_pos m1]
  unfold ThrR
  rw [hv, hw]
  have hh := h.has
  obtain ⟨ls, al, un, me, fi, la2⟩ := d
  simp only at hh m1 ⊢
  generalize ls.length = n at hh
  have c0 := hh.cell 0
  have c1 := hh.cell 1
  have c2 := hh.cell 2
  have c3 := hh.cell 3
  have c4 := hh.cell 4
  have c5 := hh.cell 5
  simp at c0 c1 c2 c3 c4 c5
  rw [m1] at c3
  by_cases q : day < fi
  · rw [if_pos q]
    clear h hv hw hh m1
    go_enter Try.func36, Try.ntmps36
    go_wp2_with fail
    go_ret2
    exact ⟨rfl, boxed _ _⟩
  · rw [if_neg q]
    have q' : fi ≤ day := by omega
    clear h hv hw hh m1 q
    go_enter Try.func36, Try.ntmps36
    go_wp2_with fail
    go_ret2
    exact ⟨rfl, boxed _ _⟩
set_option maxRecDepth 100000 in
set_option maxHeartbeats 8000000 in
theorem qthr_told (h : QgX w r d E la lc tv) (day : Int) (m2 : d.me = 2 ∨ d.me = 3) : Calls Try.prog 36 #[.pointer (some ⟨r, 0, none⟩), .int .i64 day] w (ThrR w d E day) := by
  have HFine := Lib.hid h.fine
  obtain ⟨ta, tc, rfl, hrow⟩ := h.row
  have HR := Lib.hid hrow
  have hlen := h.fine.len
  have HV2 : Hid (d.me = 2 → thrV d E day = thrM day E ∧ thrW d = 10000) := Lib.hid fun q => by unfold thrV thrW; rw [if_pos q, if_pos q]; exact ⟨rfl, rfl⟩
  have HV3 : Hid (d.me = 3 → thrV d E day = min (thrS day E) d.un ∧ thrW d = d.un) := Lib.hid fun q => by unfold thrV thrW; rw [if_neg (by omega), if_pos q, if_neg (by omega), if_pos q]; exact ⟨rfl, rfl⟩
  unfold ThrR
  obtain ⟨V1, hV1⟩ : ∃ V1, V1 = thrV d E day := ⟨_, rfl⟩
  obtain ⟨V2, hV2⟩ : ∃ V2, V2 = thrW d := ⟨_, rfl⟩
  rw [← hV1, ← hV2] at HV2 HV3
  rw [← hV1, ← hV2]
  have hh := h.has
  obtain ⟨D, hD⟩ : ∃ D, D = d := ⟨_, rfl⟩
  rw [← hD] at HFine
  obtain ⟨ls, al, un, me, fi, la2⟩ := d
  simp only at hh m2 HV2 HV3 ⊢
  generalize ls.length = n0 at hh
  obtain ⟨n, hn⟩ : ∃ n, n = E.length := ⟨_, rfl⟩
  have HN := Lib.hid hn
  rw [← hn] at hh hlen
  have c0 := hh.cell 0
  have c1 := hh.cell 1
  have c2 := hh.cell 2
  have c3 := hh.cell 3
  have c4 := hh.cell 4
  have c5 := hh.cell 5
  have c6 := hh.cell 6
  simp at c0 c1 c2 c3 c4 c5 c6
  have m0' : (me == 0) = false := by simp; omega
  have m1' : (me == 1) = false := by simp; omega
  have HM := Lib.hid m2
  have HC6 := Lib.hid c6
  clear h hrow hh hn m2 hV1 hV2 hD c6
  go_enter Try.func36, Try.ntmps36
  go_wp2_with fail
  obtain ⟨W0, hW0⟩ : ∃ W0, W0 = w.alloc (.cells #[.slice la n0 lc, .int .i64 al, .int .i64 un, .int .i64 me, .int .i64 fi, .int .i64 la2] 24) := ⟨_, rfl⟩
  have HB0 : Hid (Below w.heap.size w W0) := by rw [hW0]; exact Lib.hid (boxed _ _)
  have HD0 : Hid (Has W0 w.heap.size 24 #[.slice la n0 lc, .int .i64 al, .int .i64 un, .int .i64 me, .int .i64 fi, .int .i64 la2]) := by rw [hW0]; exact Lib.hid (Has.fresh _ _ _)
  rw [← hW0]
  have c6 := kcell HB0.out HC6.out
  have HR0 := Lib.hid (HR.out.up HB0.out)
  clear hW0 c0 c1 c2 c3 c4 c5 m0' m1'
  go_loopw [8, 9, 10] (fun m s i wr => ∃ k : Nat, k ≤ n ∧ i = .int .i64 (k : Int) ∧ m = .int .i64 (thrM day (E.take k)) ∧ s = .int .i64 (thrS day (E.take k)) ∧ wr = W0) (fun _ _ i _ => n - (intOf i).toNat)
  case atStart => exact ⟨0, Nat.zero_le _, rfl, rfl, rfl, rfl⟩
  case round =>
    obtain ⟨k, hk, rfl, rfl, rfl, rfl⟩ := hrel
    by_cases hlt : k < n
    · obtain ⟨x, hx⟩ : ∃ x, E[k]? = some x := ⟨E[k]'(by rw [← HN.out]; exact hlt), List.getElem?_eq_getElem _⟩
      obtain ⟨b, o, rfl, z0, z1⟩ := tl_at HR0.out hx
      have hsm : thrM day (E.take (k + 1)) = max (thrM day (E.take k)) (if x.1 ≤ day then x.2 else 0) := by
        have h0 := thrM_nn day (E.take k)
        rw [List.take_add_one, hx, thrM_app]
        simp only [Option.toList, thrM]
        omega
      have hss : thrS day (E.take (k + 1)) = thrS day (E.take k) + (if x.1 ≤ day then x.2 else 0) := by
        rw [List.take_add_one, hx, thrS_app]
        simp only [Option.toList, thrS]
        omega
      have hE : ∀ j, FineT D (E.take j) := fun j => by
        have h1 := HFine.out
        rw [← List.take_append_drop j E] at h1
        exact h1.front
      have b1 := thrS_bd day (hE (k + 1)).ok
      have s1 := (hE (k + 1)).sum
      have h0 := thrM_nn day (E.take k)
      have e1 : IntKind.i64.wrap ((k : Int) + 1) = (k : Int) + 1 := IntWalk.i64_in _ (by omega)
      have i0 : (0 : Int) ≤ (k : Int) := by omega
      have i1 : (k : Int) < (n : Int) := by omega
      obtain ⟨M, hM⟩ : ∃ M, M = thrM day (E.take k) := ⟨_, rfl⟩
      obtain ⟨S, hS⟩ : ∃ S, S = thrS day (E.take k) := ⟨_, rfl⟩
      rw [← hM] at h0 hsm ⊢
      rw [← hS] at hss ⊢
      obtain ⟨X, Y⟩ := x
      simp only at z0 z1 hsm hss
      have HSm := Lib.hid hsm
      have HSs := Lib.hid hss
      by_cases q : X ≤ day
      · have e2 : IntKind.i64.wrap (S + Y) = S + Y := IntWalk.i64_in _ (by rw [hss, if_pos q] at b1; omega)
        clear hx hsm hss hE b1 s1 hM hS
        go_wp2_with fail
        exact ⟨⟨k + 1, by omega, by go_num, by rw [HSm.out, if_pos q], by rw [HSs.out, if_pos q], trivial⟩, by simp [intOf]; omega⟩
      · clear hx hsm hss hE b1 s1 hM hS
        go_wp2_with fail
        exact ⟨⟨k + 1, by omega, by go_num, by rw [HSm.out, if_neg q]; congr 1; omega, by rw [HSs.out, if_neg q]; congr 1; omega, trivial⟩, by simp [intOf]; omega⟩
    · obtain rfl : k = n := by omega
      have ht : E.take k = E := by rw [HN.out, List.take_length]
      rw [ht]
      clear ht
      have d2 := HD0.out.cell 2
      have d3 := HD0.out.cell 3
      simp at d2 d3
      rcases HM.out with q | q
      · obtain ⟨e1, e2⟩ := HV2.out q
        rw [q] at d3
        have E1 := Lib.hid e1
        have E2 := Lib.hid e2
        clear e1 e2
        go_wp2_with fail
        go_ret2
        exact ⟨by rw [E1.out, E2.out]; rfl, HB0.out⟩
      · obtain ⟨e1, e2⟩ := HV3.out q
        have E1 := Lib.hid e1
        have E2 := Lib.hid e2
        rw [q] at d3
        generalize thrS day E = S at E1
        clear e1 e2
        go_wp2_with fail
        go_region
        all_goals
          go_wp2_with fail
          go_ret2
          exact ⟨by rw [E1.out, E2.out]; rfl, HB0.out.drew⟩
theorem qthr_any (h : Qg w r d E) (day : Int) : Calls Try.prog 36 #[.pointer (some ⟨r, 0, none⟩), .int .i64 day] w (ThrR w d E day) := by
  obtain ⟨la, lc, tv, h⟩ := h
  have hd := dtB_iff.1 h.fine.may
  by_cases m0 : d.me = 0
  · exact qthr_rat h day m0
  · by_cases m1 : d.me = 1
    · exact qthr_point h day m1
    · exact qthr_told h day (by omega)
end
end Go.Proofs.Ytobdcogaphkogaa
