/- New, Many; greatest, together, rises. -/
import Derived.Test.YtobdcogaphkogaaDnA
import Derived.Test.YtobdcogaphkogaaB
namespace Go.Proofs.Ytobdcogaphkogaa
open Go.RowKit

section
variable {w : World} {d : Dt} {a : Option Addr} {c : Nat}
set_option maxRecDepth 100000 in
set_option maxHeartbeats 1000000 in
theorem tnew_no (hd : dtB d = false) : Calls Try.prog 27 #[d.val a c] w fun e w' => e = .returned (.tuple #[.pointer none, .int .i64 1]) ∧ Below w.heap.size w w' := by
  have hm := fun (W : World) => mayBe_any14 d a c W
  rw [hd] at hm
  obtain ⟨ls, al, un, me, fi, la⟩ := d
  unfold Dt.val at hm ⊢
  simp only at hm ⊢
  generalize ls.length = n at hm ⊢
  have HM := Lib.hid hm
  clear hm
  go_enter Try.func27, Try.ntmps27
  go_wp2_with fail
  refine (HM.out _).mono ?_
  rintro e w1 ⟨rfl, hb⟩
  have HB := Lib.hid (up2 (boxed _ _) hb)
  clear hb
  go_wp2_with fail
  go_ret2
  exact ⟨rfl, HB.out⟩
set_option maxRecDepth 100000 in
set_option maxHeartbeats 2000000 in
theorem tnew_yes (hd : dtB d = true) (h2 : d.ls.length ≤ 17592186044416) (hI : InA w a d.ls) (ha : a = none → c = 0) : Calls Try.prog 27 #[d.val a c] w fun e w' => ∃ p, e = .returned (.tuple #[.pointer (some ⟨p, 0, none⟩), .int .i64 0]) ∧ Tg w w' p d [] ∧ w.heap.size ≤ p := by
  have hm := fun (W : World) => mayBe_any14 d a c W
  have hcp := fun (W : World) (q : Below w.heap.size w W) => copied_any d a c W h2 (hI.up q) ha
  rw [hd] at hm
  have HF := Lib.hid (FineT.nil hd)
  unfold CopR14 at hcp
  obtain ⟨ls, al, un, me, fi, la⟩ := d
  unfold Dt.val at hm hcp ⊢
  simp only at hm hcp h2 hI ⊢
  obtain ⟨n, hn⟩ : ∃ n, n = ls.length := ⟨_, rfl⟩
  have HN := Lib.hid hn
  rw [← hn] at hm hcp ⊢
  have HM := Lib.hid hm
  have HC := Lib.hid hcp
  clear hm hcp hI ha hd h2 hn
  go_enter Try.func27, Try.ntmps27
  go_wp2_with fail
  have hx := Has.fresh w 24 #[.slice a n c, .int .i64 al, .int .i64 un, .int .i64 me, .int .i64 fi, .int .i64 la]
  have HX := Lib.hid hx
  clear hx
  refine (HM.out _).mono ?_
  rintro e w1 ⟨rfl, hb⟩
  have HB := Lib.hid (up2 (boxed _ _) hb)
  have hx := HX.out.up hb
  have x0 := hx.cell 0
  have x1 := hx.cell 1
  have x2 := hx.cell 2
  have x3 := hx.cell 3
  have x4 := hx.cell 4
  have x5 := hx.cell 5
  simp at x0 x1 x2 x3 x4 x5
  clear hb hx
  go_wp2_with fail
  refine (HC.out _ HB.out).mono ?_
  rintro e w2 ⟨a', c', rfl, hown, hb⟩
  have HO := Lib.hid hown
  have HB2 := Lib.hid (up2 HB.out hb)
  clear hown hb x0 x1 x2 x3 x4 x5
  go_wp2_with fail
  go_ret2
  refine ⟨w2.heap.size, rfl, ⟨⟨a', c', .slice none 0 0, ?_, ?_, World.ownsRow_nil _ _ _ _, HF.out, fun _ => rfl⟩, grown_of (up2 HB2.out (boxed _ _)) _⟩, HB2.out.size⟩
  · rw [← HN.out]; exact Has.fresh w2 _ _
  · have ho := HO.out
    rw [HN.out] at ho
    exact own_up ho (boxed _ _)
end
section
variable {w : World} {B p : Nat} {d : Dt} {E : List Tl} {la : Option Addr} {lc : Nat} {tv : Value}
theorem tellV_in {v : Int} (h : Am v) : tellV v = v := by unfold Am at h; unfold tellV; rw [if_pos (by omega)]
theorem tellE_in {v : Int} (h : Am v) : tellE v = 0 := by unfold Am at h; unfold tellE; rw [if_pos (by omega)]
set_option maxRecDepth 100000 in
set_option maxHeartbeats 4000000 in
theorem great_any (h : TgX w B p d E la lc tv) (day : Int) : Calls Try.prog 48 #[.pointer (some ⟨p, 0, none⟩), .int .i64 day] w fun e w' => e = .returned (.int .i64 (thrM day E)) ∧ Below w.heap.size w w' := by
  obtain ⟨ta, tc, rfl, hrow⟩ := h.row
  have c6 := h.has.cell 6
  simp at c6
  have hlen := h.fine.len
  have HR := Lib.hid hrow
  obtain ⟨n, hn⟩ : ∃ n, n = E.length := ⟨_, rfl⟩
  have HN := Lib.hid hn
  rw [← hn] at c6 hlen
  clear hrow h hn
  go_enter Try.func48, Try.ntmps48
  go_wp2_with fail
  clear c6
  go_loopw [5, 13] (fun m i wr => ∃ k : Nat, k ≤ n ∧ i = .int .i64 (k : Int) ∧ m = .int .i64 (thrM day (E.take k)) ∧ Below w.heap.size w wr) (fun _ i _ => n - (intOf i).toNat)
  case atStart => exact ⟨0, Nat.zero_le _, rfl, rfl, Below.refl _ _⟩
  case round =>
    obtain ⟨k, hk, rfl, rfl, hb⟩ := hrel
    have HB := Lib.hid hb
    clear hb
    by_cases hlt : k < n
    · obtain ⟨x, hx⟩ : ∃ x, E[k]? = some x := ⟨E[k]'(by rw [← HN.out]; exact hlt), List.getElem?_eq_getElem _⟩
      obtain ⟨b, o, rfl, c0, c1⟩ := tl_at (HR.out.up HB.out) hx
      have hstep : thrM day (E.take (k + 1)) = max (thrM day (E.take k)) (if x.1 ≤ day then x.2 else 0) := by
        have h0 := thrM_nn day (E.take k)
        rw [List.take_add_one, hx, thrM_app]
        simp only [Option.toList, thrM]
        omega
      have HS := Lib.hid hstep
      have e1 : IntKind.i64.wrap ((k : Int) + 1) = (k : Int) + 1 := IntWalk.i64_in _ (by omega)
      have h0 := thrM_nn day (E.take k)
      obtain ⟨M, hM⟩ : ∃ M, M = thrM day (E.take k) := ⟨_, rfl⟩
      rw [← hM] at h0 ⊢
      have HM := Lib.hid hM
      obtain ⟨X, Y⟩ := x
      simp only at c0 c1
      clear hx hstep hM
      by_cases q : X ≤ day
      · go_wp2_with fail
        exact ⟨⟨k + 1, by omega, by go_num, by rw [HS.out, if_pos q, ← HM.out], up2 HB.out (boxed _ _)⟩, by simp [intOf]; omega⟩
      · go_wp2_with fail
        go_roundw
        case rel => exact ⟨k + 1, by omega, by go_num, by rw [HS.out, if_neg q, ← HM.out]; congr 1; omega, up2 HB.out (boxed _ _)⟩
        case measure => simp [intOf]; omega
    · obtain rfl : k = n := by omega
      go_wp2_with fail
      go_ret
      exact ⟨by rw [HN.out, List.take_length]; rfl, HB.out⟩
set_option maxRecDepth 100000 in
set_option maxHeartbeats 4000000 in
theorem tog_any (h : TgX w B p d E la lc tv) (day : Int) : Calls Try.prog 49 #[.pointer (some ⟨p, 0, none⟩), .int .i64 day] w fun e w' => e = .returned (.int .i64 (thrS day E)) ∧ Below w.heap.size w w' := by
  obtain ⟨ta, tc, rfl, hrow⟩ := h.row
  have c6 := h.has.cell 6
  simp at c6
  have hlen := h.fine.len
  have HR := Lib.hid hrow
  have HFine := Lib.hid h.fine
  obtain ⟨n, hn⟩ : ∃ n, n = E.length := ⟨_, rfl⟩
  have HN := Lib.hid hn
  rw [← hn] at c6 hlen
  clear hrow h hn
  go_enter Try.func49, Try.ntmps49
  go_wp2_with fail
  clear c6
  go_loopw [5, 13] (fun m i wr => ∃ k : Nat, k ≤ n ∧ i = .int .i64 (k : Int) ∧ m = .int .i64 (thrS day (E.take k)) ∧ Below w.heap.size w wr) (fun _ i _ => n - (intOf i).toNat)
  case atStart => exact ⟨0, Nat.zero_le _, rfl, rfl, Below.refl _ _⟩
  case round =>
    obtain ⟨k, hk, rfl, rfl, hb⟩ := hrel
    have HB := Lib.hid hb
    clear hb
    by_cases hlt : k < n
    · obtain ⟨x, hx⟩ : ∃ x, E[k]? = some x := ⟨E[k]'(by rw [← HN.out]; exact hlt), List.getElem?_eq_getElem _⟩
      obtain ⟨b, o, rfl, c0, c1⟩ := tl_at (HR.out.up HB.out) hx
      have hstep : thrS day (E.take (k + 1)) = thrS day (E.take k) + (if x.1 ≤ day then x.2 else 0) := by
        rw [List.take_add_one, hx, thrS_app]
        simp only [Option.toList, thrS]
        omega
      have HS := Lib.hid hstep
      have e1 : IntKind.i64.wrap ((k : Int) + 1) = (k : Int) + 1 := IntWalk.i64_in _ (by omega)
      have hE : ∀ j, FineT d (E.take j) := fun j => by
        have h1 := HFine.out
        rw [← List.take_append_drop j E] at h1
        exact h1.front
      have b0 := thrS_bd day (hE k).ok
      have b1 := thrS_bd day (hE (k + 1)).ok
      have s0 := (hE k).sum
      have s1 := (hE (k + 1)).sum
      have hx0 := HFine.out.ok x (List.mem_of_getElem? hx)
      have a0 : Am (thrS day (E.take k)) := by unfold Am; omega
      have hsx := HFine.out.sum
      have hx2 : Am x.2 := by
        have := (hE (k + 1)).ok
        rw [List.take_add_one, hx, sumT_app] at s1
        have := sumT_nn (hE k).ok
        simp [sumT] at s1
        unfold Am; omega
      obtain ⟨M, hM⟩ : ∃ M, M = thrS day (E.take k) := ⟨_, rfl⟩
      rw [← hM] at a0 ⊢
      have HM := Lib.hid hM
      obtain ⟨X, Y⟩ := x
      simp only at c0 c1 hx2
      have h2 : X ≤ day → Am (M + Y) := fun q => by
        rw [hstep, if_pos q, ← hM] at b1
        simp only at b1
        unfold Am; omega
      have HAdd := Lib.hid (fun (W : World) => add_any M Y W a0.1 a0.2 hx2.1 hx2.2)
      have H2 := Lib.hid h2
      clear hx hstep hM hE b0 b1 s0 s1 hx0 hsx h2 a0 hx2
      by_cases q : X ≤ day
      · rw [tellV_in (H2.out q), tellE_in (H2.out q)] at HAdd
        go_wp2_with fail
        refine (HAdd.out _).mono ?_
        rintro e w2 ⟨rfl, hb2⟩
        have HB2 := Lib.hid (up2 (boxed _ _) hb2)
        clear hb2 c0 c1
        go_wp2_with fail
        exact ⟨⟨k + 1, by omega, by go_num, by rw [HS.out, if_pos q, ← HM.out], up2 HB.out HB2.out⟩, by simp [intOf]; omega⟩
      · go_wp2_with fail
        go_roundw
        case rel => exact ⟨k + 1, by omega, by go_num, by rw [HS.out, if_neg q, ← HM.out]; congr 1; omega, up2 HB.out (boxed _ _)⟩
        case measure => simp [intOf]; omega
    · obtain rfl : k = n := by omega
      go_wp2_with fail
      go_ret
      exact ⟨by rw [HN.out, List.take_length]; rfl, HB.out⟩
set_option maxRecDepth 100000 in
set_option maxHeartbeats 8000000 in
theorem tnrises_any (h : TgX w B p d E la lc tv) (day m : Int) : Calls Try.prog 58 #[.pointer (some ⟨p, 0, none⟩), .int .i64 day, .int .i64 m] w fun e w' => e = .returned (.int .i64 (risT day m E)) ∧ Below w.heap.size w w' := by
  obtain ⟨ta, tc, rfl, hrow⟩ := h.row
  have c6 := h.has.cell 6
  simp at c6
  have hlen := h.fine.len
  have HR := Lib.hid hrow
  obtain ⟨n, hn⟩ : ∃ n, n = E.length := ⟨_, rfl⟩
  have HN := Lib.hid hn
  rw [← hn] at c6 hlen
  clear hrow h hn
  go_enter Try.func58, Try.ntmps58
  go_wp2_with fail
  clear c6
  go_loopw [7, 15] (fun v i wr => ∃ k : Nat, k ≤ n ∧ i = .int .i64 (k : Int) ∧ v = .int .i64 (if badT day m (E.take k) = true then 11 else 0) ∧ twiT day (E.take k) = false ∧ Below w.heap.size w wr) (fun _ i _ => n - (intOf i).toNat)
  case atStart => exact ⟨0, Nat.zero_le _, rfl, rfl, rfl, Below.refl _ _⟩
  case round =>
    obtain ⟨k, hk, rfl, rfl, ht, hb⟩ := hrel
    have HB := Lib.hid hb
    have HT := Lib.hid ht
    clear hb ht
    obtain ⟨V, hV⟩ : ∃ V, V = (if badT day m (E.take k) = true then (11 : Int) else 0) := ⟨_, rfl⟩
    rw [← hV]
    have HV := Lib.hid hV
    clear hV
    by_cases hlt : k < n
    · obtain ⟨x, hx⟩ : ∃ x, E[k]? = some x := ⟨E[k]'(by rw [← HN.out]; exact hlt), List.getElem?_eq_getElem _⟩
      obtain ⟨b, o, rfl, c0, c1⟩ := tl_at (HR.out.up HB.out) hx
      have hb1 : badT day m (E.take (k + 1)) = (badT day m (E.take k) || badB day m x) := by
        rw [List.take_add_one, hx]; unfold badT; simp
      have ht1 : twiT day (E.take (k + 1)) = (twiT day (E.take k) || decide (x.1 = day)) := by
        rw [List.take_add_one, hx]; unfold twiT; simp
      have hall : x.1 = day → risT day m E = 6 := fun q => by
        have : twiT day E = true := List.any_eq_true.2 ⟨x, List.mem_of_getElem? hx, by simpa using q⟩
        unfold risT; rw [if_pos this]
      rw [HT.out, Bool.false_or] at ht1
      have e1 : IntKind.i64.wrap ((k : Int) + 1) = (k : Int) + 1 := IntWalk.i64_in _ (by omega)
      have HB1 := Lib.hid hb1
      have HT1 := Lib.hid ht1
      have HAll := Lib.hid hall
      obtain ⟨X, Y⟩ := x
      simp only [badB] at c0 c1 HB1 HT1 HAll
      clear hx hb1 ht1 hall
      by_cases q : X = day
      · have q' : (X == day) = true := by simpa using q
        go_wp2_with fail
        go_ret
        exact ⟨by rw [HAll.out q]; rfl, up2 HB.out (boxed _ _)⟩
      · have q' : (X == day) = false := by simpa using q
        have HQ := Lib.hid q
        have hno : twiT day (E.take (k + 1)) = false := by rw [HT1.out]; simpa using q
        have HNo := Lib.hid hno
        clear q hno
        by_cases q1 : X < day
        · have q2 : ¬ day < X := by omega
          by_cases q3 : m < Y
          · have hv : badT day m (E.take (k + 1)) = true := by rw [HB1.out]; simp [q1, q3]
            have HVV := Lib.hid hv
            clear hv
            go_wp2_with fail
            exact ⟨⟨k + 1, by omega, by go_num, by rw [HVV.out]; rfl, HNo.out, up2 HB.out (boxed _ _)⟩, by simp [intOf]; omega⟩
          · have hv : badT day m (E.take (k + 1)) = badT day m (E.take k) := by rw [HB1.out]; simp [q1, q2, q3]
            have HVV := Lib.hid hv
            clear hv
            go_wp2_with fail
            exact ⟨⟨k + 1, by omega, by go_num, by rw [HVV.out, HV.out], HNo.out, up2 HB.out (boxed _ _)⟩, by simp [intOf]; omega⟩
        · have q2 : day < X := by have := HQ.out; omega
          by_cases q3 : Y < m
          · have hv : badT day m (E.take (k + 1)) = true := by rw [HB1.out]; simp [q2, q3]
            have HVV := Lib.hid hv
            clear hv
            go_wp2_with fail
            exact ⟨⟨k + 1, by omega, by go_num, by rw [HVV.out]; rfl, HNo.out, up2 HB.out (boxed _ _)⟩, by simp [intOf]; omega⟩
          · have hv : badT day m (E.take (k + 1)) = badT day m (E.take k) := by rw [HB1.out]; simp [q1, q2, q3]
            have HVV := Lib.hid hv
            clear hv
            go_wp2_with fail
            exact ⟨⟨k + 1, by omega, by go_num, by rw [HVV.out, HV.out], HNo.out, up2 HB.out (boxed _ _)⟩, by simp [intOf]; omega⟩
    · obtain rfl : k = n := by omega
      go_wp2_with fail
      go_ret
      have ht := HT.out
      have hv := HV.out
      rw [HN.out, List.take_length] at ht hv
      exact ⟨by unfold risT; rw [ht, if_neg (by simp), ← hv]; rfl, HB.out⟩
end
end Go.Proofs.Ytobdcogaphkogaa
