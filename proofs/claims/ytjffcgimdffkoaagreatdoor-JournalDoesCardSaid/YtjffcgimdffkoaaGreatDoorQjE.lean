/- The reference's journal in memory: Append walked. -/
import Derived.Test.YtjffcgimdffkoaaGreatDoorQjD
namespace Go.Proofs.YtjffcgimdffkoaaGreatDoor
open Go.RowKit

/-- what the reference's calls need of span, ahead of them -/
def SpanAt (w : World) (q h F T : Nat) : Prop := ∀ n, Calls Tryz.prog 31 #[.pointer (some ⟨q, 0, none⟩), .int .i64 (h : Int)] (w.drewN n) fun e w' => e = .returned (.tuple #[.int .i64 (F : Int), .int .i64 (T : Int)]) ∧ w.drewN n = w'
theorem Rt.span {w : World} {q r : Nat} {s : SS} (H : Rt w q r s) {h : Nat} (hh : h ≤ 1) (h3 : 3 ≤ s.n) (hn : s.n ≤ 4096) : SpanAt w q h (frm s.n h) (til s.n h) := fun n => span_any (w.drewN n) q r h s (H.drewN n) hh h3 hn

set_option maxRecDepth 100000 in
set_option maxHeartbeats 2000000 in
theorem rapp_down (w : World) (K q h nx : Nat) (v : Value) (x : ByteArray) (hK : Has w K 69 (rcs q h nx v true)) :
    Calls Tryz.prog 11 #[.pointer (some ⟨K, 0, none⟩), .string x] w fun e w' => e = .returned (.int .i64 9) ∧ w = w' := by
  have c4 : w.cell? ⟨K, 4, none⟩ = some (.bool true) := hK.cell 4
  clear hK
  go_enter Tryz.func11, Tryz.ntmps11
  go_wp2
  go_ret
  exact ⟨rfl, rfl⟩
set_option maxRecDepth 100000 in
set_option maxHeartbeats 2000000 in
theorem rapp_err (w : World) (K q h nx F T : Nat) (v : Value) (x : ByteArray) (N E : Int) (P : World → Prop) (hK : Has w K 69 (rcs q h nx v false)) (hS : SpanAt w q h F T) (hE : E ≠ 0)
    (hL : ∀ z, Calls Tryz.prog 37 #[.pointer (some ⟨K, 0, none⟩), .string x, .int .i64 (nx : Int), .int .i64 (T : Int)] (w.drewN z) fun e w' => e = .returned (.tuple #[.int .i64 N, .int .i64 E]) ∧ P w') :
    Calls Tryz.prog 11 #[.pointer (some ⟨K, 0, none⟩), .string x] w fun e w' => e = .returned (.int .i64 E) ∧ P w' := by
  have c0 : w.cell? ⟨K, 0, none⟩ = some (.pointer (some ⟨q, 0, none⟩)) := hK.cell 0
  have c1 : w.cell? ⟨K, 1, none⟩ = some (.int .i64 (h : Int)) := hK.cell 1
  have c2 : w.cell? ⟨K, 2, none⟩ = some (.int .i64 (nx : Int)) := hK.cell 2
  have c4 : w.cell? ⟨K, 4, none⟩ = some (.bool false) := hK.cell 4
  have hE1 : (E != 0) = true := by simpa using hE
  have HS := Lib.hid hS
  have HL := Lib.hid hL
  clear hK hS hL hE
  unfold SpanAt at HS
  go_enter Tryz.func11, Tryz.ntmps11
  go_wp2_with fail
  go_quiet ((go_at_call 31; with_reducible exact quiet_left (HS.out _)))
  go_wp2_with fail
  refine (HL.out _).mono ?_
  rintro e w2 ⟨rfl, hp⟩
  have HP := Lib.hid hp
  clear hp
  go_wp2
  go_ret
  exact ⟨rfl, HP.out⟩

/-- behind an Append that is fine -/
def RApp (w : World) (K q r h nx : Nat) (xs : List ByteArray) (S : SS) (e : Ending) (w' : World) : Prop :=
  e = .returned (.int .i64 0) ∧ ∃ R' v', w.heap.size ≤ R' ∧ R' < w'.heap.size ∧ Rt w' q r S ∧ Has w' K 69 (rcs q h nx v' false) ∧ Rw w' R' v' xs ∧ Turn (fun k => k = K ∨ k = q ∨ k = r) w w'
set_option maxRecDepth 100000 in
set_option maxHeartbeats 2000000 in
theorem rapp_ok (w : World) (K R q r h nx n F T : Nat) (v : Value) (x : ByteArray) (xs : List ByteArray) (S : SS) (hK : Has w K 69 (rcs q h nx v false)) (hS : SpanAt w q h F T)
    (hL : ∀ z, Calls Tryz.prog 37 #[.pointer (some ⟨K, 0, none⟩), .string x, .int .i64 (nx : Int), .int .i64 (T : Int)] (w.drewN z) fun e w' => e = .returned (.tuple #[.int .i64 (n : Int), .int .i64 0]) ∧ Rt w' q r S ∧ Has w' K 69 (rcs q h nx v false) ∧ Turn (fun k => k = K ∨ k = q ∨ k = r) (w.drewN z) w')
    (hR : Rw w R v xs) (hne : R ≠ K ∧ R ≠ q ∧ R ≠ r) (hn : xs.length ≤ 100000) (hx1 : nx ≤ 10000) (hn1 : n ≤ 1000) :
    Calls Tryz.prog 11 #[.pointer (some ⟨K, 0, none⟩), .string x] w (RApp w K q r h (nx + n) (xs ++ [x]) S) := by
  have c0 : w.cell? ⟨K, 0, none⟩ = some (.pointer (some ⟨q, 0, none⟩)) := hK.cell 0
  have c1 : w.cell? ⟨K, 1, none⟩ = some (.int .i64 (h : Int)) := hK.cell 1
  have c2 : w.cell? ⟨K, 2, none⟩ = some (.int .i64 (nx : Int)) := hK.cell 2
  have c4 : w.cell? ⟨K, 4, none⟩ = some (.bool false) := hK.cell 4
  obtain ⟨m, hm⟩ : ∃ m, m = nx + n := ⟨_, rfl⟩
  have e1 : IntKind.i64.wrap ((nx : Int) + (n : Int)) = (m : Int) := by rw [hm, IntWalk.i64_in _ (by omega)]; omega
  rw [← hm]
  have HS := Lib.hid hS
  have HL := Lib.hid hL
  have HR := Lib.hid (And.intro hR hne)
  clear hK hS hL hR hne hm
  unfold SpanAt at HS
  go_enter Tryz.func11, Tryz.ntmps11
  go_wp2_with fail
  go_quiet ((go_at_call 31; with_reducible exact quiet_left (HS.out _)))
  go_wp2_with fail
  refine (HL.out _).mono ?_
  rintro e w2 ⟨rfl, hrt, hk2, ht2⟩
  have hr2 : Rw w2 R v xs := HR.out.1.of fun cs hc => ht2.has hc (fun z => by have := HR.out.2; omega)
  obtain ⟨a, c, rfl, hsA, hnil, hlc⟩ := hr2.form
  obtain ⟨l, hl⟩ : ∃ l, l = xs.length := ⟨_, rfl⟩
  obtain ⟨W3, hW3⟩ : ∃ W3, W3 = w2.alloc (.cells #[] 9) := ⟨_, rfl⟩
  have b3 : Below w2.heap.size w2 W3 := by rw [hW3]; exact boxed _ _
  have g3 : Has W3 w2.heap.size 9 #[] := by rw [hW3]; exact Has.fresh _ _ _
  obtain ⟨v4, w4, run4, R4, hR4, hR4l, row4, t4⟩ := copy_any 49 W3 w2.heap.size a c xs g3 (hsA.up b3) hn hnil
  obtain ⟨A4, L4, C4, rfl⟩ := row4.slc
  have b4 : Below w2.heap.size w2 w4 := b3.trans (t4.below b3.size (fun k hk => by omega))
  obtain ⟨W5, hW5⟩ : ∃ W5, W5 = w4.alloc (.cells #[.string x] 9) := ⟨_, rfl⟩
  have b45 : Below w4.heap.size w4 W5 := by rw [hW5]; exact boxed _ _
  have y5 : W5.cell? ⟨w4.heap.size, 0, none⟩ = some (.string x) := by rw [hW5]; exact (Has.fresh w4 9 #[.string x]).cell 0
  have b5 : Below w2.heap.size w2 W5 := up2 b4 b45
  obtain ⟨v6, w6, run6, R6, hR6, hR6l, row6, t6, A6, L6, C6, rfl⟩ := more_any 49 W5 w2.heap.size R4 w4.heap.size _ xs x (row4.up b45) hR4 b5.size hn y5
  have b6 : Below w2.heap.size w2 w6 := b5.trans (t6.below b5.size (fun k hk => by omega))
  have K6 := Lib.hid (hk2.up b6)
  have T6 := Lib.hid (hrt.up b6)
  have Row6 := Lib.hid (And.intro row6 (And.intro hR6 hR6l))
  have TT := Lib.hid (And.intro ht2 b6)
  have d3 : w6.cell? ⟨K, 3, none⟩ = some (.slice a xs.length c) := K6.out.cell 3
  have d2 : w6.cell? ⟨K, 2, none⟩ = some (.int .i64 (nx : Int)) := K6.out.cell 2
  have f3 := K6.out.free 3
  have f2 := K6.out.free 2
  have k3 : w2.cell? ⟨K, 3, none⟩ = some (.slice a xs.length c) := hk2.cell 3
  have kz := hk2.lt
  rw [← hl] at run4 d3 k3
  have HW3 := Lib.hid hW3
  have HW5 := Lib.hid hW5
  have Run4 := Lib.hid run4
  have Run6 := Lib.hid run6
  clear hrt hk2 ht2 hr2 hsA hnil hlc hl hW3 b3 g3 run4 hR4 hR4l row4 t4 b4 hW5 b45 y5 b5 run6 hR6 hR6l row6 t6 b6 c0 c1 c2 c4
  go_wp2_with (first
    | (at_builtin; rw [← HW3.out]; refine Lib.wpList_append_run _ rfl (.tmp 40) (.tmp 44) 49 49 rfl (.slice (some ⟨w2.heap.size, 0, none⟩) 0 0) (.slice a l c) rfl rfl (.slice A4 L4 C4) w4 Run4.out ?_)
    | (at_builtin; rw [← HW5.out]; refine Lib.wpList_append_run _ rfl (.tmp 45) (.tmp 47) 49 49 rfl (.slice A4 L4 C4) (.slice (some ⟨w4.heap.size, 0, none⟩) 1 1) rfl rfl (.slice A6 L6 C6) w6 Run6.out ?_))
  go_ret
  have hn := T6.out.nbox K6.out (by decide) (by decide)
  have hz := TT.out.1.size
  have h9 : Has ((w6.setCell ⟨K, 3, none⟩ (.slice A6 L6 C6)).setCell ⟨K, 2, none⟩ (.int .i64 (m : Int))) K 69 (rcs q h m (.slice A6 L6 C6) false) := (K6.out.put 3 _).put 2 _
  have hs : w.heap.size ≤ w2.heap.size := TT.out.1.size
  refine ⟨rfl, R6, .slice A6 L6 C6, by have := Row6.out.2.1; omega, by simpa [World.setCell] using Row6.out.2.2, ?_, h9, ?_, ?_⟩
  · obtain ⟨cap, Tt, hh, ht⟩ := T6.out.head
    obtain ⟨cs, hc, hl⟩ := T6.out.row
    exact ⟨⟨cap, Tt, (hh.off (p := ⟨K, 3, none⟩) (Ne.symm hn.1) _).off (p := ⟨K, 2, none⟩) (Ne.symm hn.1) _, ht⟩, cs, (hc.off (p := ⟨K, 3, none⟩) (Ne.symm hn.2) _).off (p := ⟨K, 2, none⟩) (Ne.symm hn.2) _, hl⟩
  · refine Row6.out.1.of fun cs hc => ?_
    have : R6 ≠ K := hc.ne K6.out (by decide)
    exact (hc.off (p := ⟨K, 3, none⟩) this _).off (p := ⟨K, 2, none⟩) this _
  · have t0 : Turn (fun k => k = K ∨ k = q ∨ k = r) w w6 := Turn.trans (⟨TT.out.1.os, TT.out.1.tape, TT.out.1.output, TT.out.1.size, TT.out.1.block⟩ : Turn (fun k => k = K ∨ k = q ∨ k = r) w w2) (Turn.of _ TT.out.2)
    exact (t0.put (a := ⟨K, 3, none⟩) (.inl rfl) _).put (a := ⟨K, 2, none⟩) (.inl rfl) _
end Go.Proofs.YtjffcgimdffkoaaGreatDoor
