/- The reference's journal in memory: Snap walked. -/
import Derived.Test.YtjffcgimdffkoaaGreatDoorQjI
namespace Go.Proofs.YtjffcgimdffkoaaGreatDoor
open Go.RowKit

set_option maxRecDepth 100000 in
set_option maxHeartbeats 2000000 in
theorem rsnap_down (w : World) (K q h nx : Nat) (v : Value) (x : ByteArray) (hK : Has w K 69 (rcs q h nx v true)) :
    Calls Tryz.prog 13 #[.pointer (some ⟨K, 0, none⟩), .string x] w fun e w' => e = .returned (.int .i64 9) ∧ w = w' := by
  have c4 : w.cell? ⟨K, 4, none⟩ = some (.bool true) := hK.cell 4
  clear hK
  go_enter Tryz.func13, Tryz.ntmps13
  go_wp2
  go_ret
  exact ⟨rfl, rfl⟩
set_option maxRecDepth 100000 in
set_option maxHeartbeats 2000000 in
theorem rsnap_err (w : World) (K q h nx g F T : Nat) (v : Value) (x : ByteArray) (N E : Int) (P : World → Prop) (hK : Has w K 69 (rcs q h nx v false)) (hh : h ≤ 1) (hg : g = 1 - h) (hS : SpanAt w q g F T) (hE : E ≠ 0)
    (hL : ∀ z, Calls Tryz.prog 37 #[.pointer (some ⟨K, 0, none⟩), .string x, .int .i64 (F : Int), .int .i64 (T : Int)] (w.drewN z) fun e w' => e = .returned (.tuple #[.int .i64 N, .int .i64 E]) ∧ P w') :
    Calls Tryz.prog 13 #[.pointer (some ⟨K, 0, none⟩), .string x] w fun e w' => e = .returned (.int .i64 E) ∧ P w' := by
  have c0 : w.cell? ⟨K, 0, none⟩ = some (.pointer (some ⟨q, 0, none⟩)) := hK.cell 0
  have c1 : w.cell? ⟨K, 1, none⟩ = some (.int .i64 (h : Int)) := hK.cell 1
  have c4 : w.cell? ⟨K, 4, none⟩ = some (.bool false) := hK.cell 4
  have hE1 : (E != 0) = true := by simpa using hE
  have e1 : IntKind.i64.wrap (1 - (h : Int)) = (g : Int) := by rw [IntWalk.i64_in _ (by omega)]; omega
  have HS := Lib.hid hS
  have HL := Lib.hid hL
  clear hK hS hL hE hg hh
  unfold SpanAt at HS
  go_enter Tryz.func13, Tryz.ntmps13
  go_wp2_with fail
  go_quiet ((go_at_call 31; with_reducible exact quiet_left (HS.out _)))
  go_wp2_with fail
  refine (HL.out _).mono ?_
  rintro e w2 ⟨rfl, hp⟩
  have HP := Lib.hid hp
  clear hp
  go_wp2
  go_ret
  exact ⟨rfl, HP.out⟩

/-- behind a Snap whose bytes are laid -/
def RSnp (w : World) (K q r h nx g F n : Nat) (v : Value) (x : ByteArray) (S : SS) (E : Int) (e : Ending) (w' : World) : Prop :=
  e = .returned (.int .i64 E) ∧ Rt w' q r S ∧ Turn (fun k => k = K ∨ k = q ∨ k = r) w w' ∧ if E = 0 then ∃ R', w.heap.size ≤ R' ∧ R' < w'.heap.size ∧ Has w' K 69 (rcs q g (F + n) (.slice (some ⟨R', 0, none⟩) 1 1) false) ∧ Rw w' R' (.slice (some ⟨R', 0, none⟩) 1 1) [x] else Has w' K 69 (rcs q h nx v true)
theorem Rt.off {w : World} {K q r : Nat} {s : SS} (H : Rt w q r s) (hn : K ≠ q ∧ K ≠ r) (i : Nat) (u : Value) : Rt (w.setCell ⟨K, i, none⟩ u) q r s := by
  obtain ⟨cap, T, hh, ht⟩ := H.head
  obtain ⟨cs, hc, hl⟩ := H.row
  exact ⟨⟨cap, T, hh.off (p := ⟨K, i, none⟩) (Ne.symm hn.1) _, ht⟩, cs, hc.off (p := ⟨K, i, none⟩) (Ne.symm hn.2) _, hl⟩
theorem zs_tail (g : Nat) : (⟨#[UInt8.ofNat g]⟩ : ByteArray) ++ (zs 64).extract 1 (zs 64).size = mark0 g := by
  have e : (zs 64).extract 1 (zs 64).size = str (List.replicate 63 0) := by rw [zs_size, zs_str, ext_str, str_list]; rfl
  rw [e]
  exact mark_head g
theorem one_row (w : World) (x : ByteArray) : Rw (w.alloc (.cells #[.string x] 9)) w.heap.size (.slice (some ⟨w.heap.size, 0, none⟩) 1 1) [x] :=
  .inr ⟨0, 1, _, rfl, Has.fresh w 9 #[.string x], by simp, by simp, by unfold maxLen; omega, fun j y e => by
    cases j with
    | zero => simp at e; subst e; rfl
    | succ j => simp at e⟩

set_option maxRecDepth 100000 in
set_option maxHeartbeats 4000000 in
theorem rsnap_ok (w : World) (K q r h nx g n F T : Nat) (v : Value) (x : ByteArray) (S : SS) (m : Int) (hK : Has w K 69 (rcs q h nx v false)) (hh : h ≤ 1) (hg : g = 1 - h) (hS : SpanAt w q g F T) (hF : F ≤ 10000) (hn : n ≤ 1000) (hfi : Fine S m) (hm : m ≤ 890000)
    (hL : ∀ z, Calls Tryz.prog 37 #[.pointer (some ⟨K, 0, none⟩), .string x, .int .i64 (F : Int), .int .i64 (T : Int)] (w.drewN z) fun e w' => e = .returned (.tuple #[.int .i64 (n : Int), .int .i64 0]) ∧ Rt w' q r S ∧ Has w' K 69 (rcs q h nx v false) ∧ Turn (fun k => k = K ∨ k = q ∨ k = r) (w.drewN z) w') :
    Calls Tryz.prog 13 #[.pointer (some ⟨K, 0, none⟩), .string x] w (RSnp w K q r h nx g F n v x (wrS S 0 (mark0 g)) (wrE S 0 (mark0 g))) := by
  have c0 : w.cell? ⟨K, 0, none⟩ = some (.pointer (some ⟨q, 0, none⟩)) := hK.cell 0
  have c1 : w.cell? ⟨K, 1, none⟩ = some (.int .i64 (h : Int)) := hK.cell 1
  have c4 : w.cell? ⟨K, 4, none⟩ = some (.bool false) := hK.cell 4
  have e1 : IntKind.i64.wrap (1 - (h : Int)) = (g : Int) := by rw [IntWalk.i64_in _ (by omega)]; omega
  obtain ⟨p, hp⟩ : ∃ p, p = F + n := ⟨_, rfl⟩
  have e2 : IntKind.i64.wrap ((F : Int) + (n : Int)) = (p : Int) := by rw [hp, IntWalk.i64_in _ (by omega)]; omega
  have e3 : IntKind.u8.wrap (g : Int) = (g : Int) := by
    have : g = 0 ∨ g = 1 := by omega
    rcases this with z | z <;> rw [z] <;> rfl
  have hcv : ∀ (W : World) (b : Nat), W.cell? ⟨b, 0, none⟩ = some (.int .u8 (g : Int)) → Sem.run Tryz.prog (convert 46 9 (.slice (some ⟨b, 0, none⟩) 1 1)) W = .ok (.string ⟨#[UInt8.ofNat g]⟩) W := fun W b hc => by
    refine Lib.run_convert_whole (P := Tryz.prog) W 46 5 9 Tryz.underlying46 Tryz.underlying5 Tryz.underlying9 b 0 ⟨#[UInt8.ofNat g]⟩ (fun j hj => ?_) 1
    have : j = 0 := by have : j < 1 := hj; omega
    subst this
    rw [Nat.zero_add, hc]
    show some (Value.int .u8 (g : Int)) = some (.int .u8 ((UInt8.ofNat g).toNat : Int))
    rw [UInt8.toNat_ofNat']
    congr 2
    omega
  obtain ⟨Z, hZ⟩ : ∃ Z, Z = zs 64 := ⟨_, rfl⟩
  have HZ : Hid (∀ W : World, Calls Tryz.prog 30 #[] W fun e w' => e = .returned (.string Z) ∧ Below W.heap.size W w') := fun W => by rw [hZ]; exact jzeros_any W
  have hfin : (⟨#[UInt8.ofNat g]⟩ : ByteArray) ++ Z.extract 1 Z.size = mark0 g := by rw [hZ]; exact zs_tail g
  have z0 : Z.size = 64 := by rw [hZ]; exact zs_size 64
  have z1 : (1 : Int) ≤ (Z.size : Int) := by omega
  have z2 : ¬ (9223372036854775807 < 1 + (Z.extract 1 Z.size).size) := by rw [ByteArray.size_extract]; omega
  have z3 : ¬ (9223372036854775807 < 1 + (Z.size - 1)) := by omega
  have z5 : Z.size ≤ 64 := by omega
  obtain ⟨E, hE⟩ : ∃ E, E = wrE S 0 (mark0 g) := ⟨_, rfl⟩
  obtain ⟨S2, hS2⟩ : ∃ S2, S2 = wrS S 0 (mark0 g) := ⟨_, rfl⟩
  rw [← hE, ← hS2]
  have HE := Lib.hid (And.intro hE (And.intro hS2 hp))
  have HF := Lib.hid hfin
  have HS := Lib.hid hS
  have HL := Lib.hid hL
  have HFi := Lib.hid hfi
  clear hK hS hL hg hh hfin hZ z0 hfi hp hE hS2
  unfold SpanAt at HS
  go_enter Tryz.func13, Tryz.ntmps13
  go_wp2_with fail
  go_quiet ((go_at_call 31; with_reducible exact quiet_left (HS.out _)))
  go_wp2_with fail
  refine (HL.out _).mono ?_
  rintro e w2 ⟨rfl, hrt, hk2, ht2⟩
  have hn2 := hrt.nbox hk2 (by decide) (by decide)
  have H0 : Hid (Ly w2 w2 K q r K h nx v false [] S m) := ⟨hrt, HFi.out, hk2, fun j y e => by simp at e, hn2, Turn.refl _ _⟩
  have T0 := Lib.hid ht2.undraw
  have d0 : w2.cell? ⟨K, 0, none⟩ = some (.pointer (some ⟨q, 0, none⟩)) := hk2.cell 0
  have d1 : w2.cell? ⟨K, 1, none⟩ = some (.int .i64 (h : Int)) := hk2.cell 1
  have kz := hk2.lt
  clear hrt hk2 ht2 hn2 c0 c1 c4
  go_wp2_with fail
  go_cut [8] (fun s8 wx => s8 = .int .i64 E ∧ Hid (Ly w2 wx K q r K h nx v false [] S2 (m + 1)))
  case first =>
    go_region_with (first
      | (go_at_call 30; ((with_reducible refine (HZ.out _).mono ?_); rintro e w3 ⟨rfl, g1⟩; have D1 := Lib.hid (show Ly w2 w3 K q r K h nx v false [] S m by first | exact H0.out.drew.up g1 | exact (H0.out.drew.up (boxed _ _)).up g1); have q0 : w3.cell? ⟨K, 0, none⟩ = some (.pointer (some ⟨q, 0, none⟩)) := D1.out.k.cell 0; have q1 : w3.cell? ⟨K, 1, none⟩ = some (.int .i64 (h : Int)) := D1.out.k.cell 1; have kz3 := D1.out.k.lt; (try have q2 : w3.cell? ⟨w2.heap.size, 0, none⟩ = some (.int .u8 (g : Int)) := kcell g1 ((Has.fresh w2.drew 5 #[.int .u8 (g : Int)]).cell 0)); clear g1))
      | (go_at_call 18; (first | (with_reducible refine (D1.out.write (by omega) 0 _).mono ?_) | (with_reducible refine ((D1.out.up (boxed _ _)).write (by omega) 0 _).mono ?_)); rintro e w4 ⟨rfl, g2⟩; have D2 := Lib.hid g2; clear g2))
    all_goals
      go_wp2_with fail
      go_meet
      exact ⟨by rw [HF.out, HE.out.1], by rw [HE.out.2.1, ← HF.out]; exact D2.out⟩
  case rest =>
    obtain ⟨rfl, HW⟩ := hcut
    have hlow := HW.out.k.lt
    have t9 := T0.out.trans (HW.out.turn.mono (F' := fun k => k = K ∨ k = q ∨ k = r) fun k _ z => .inr z)
    have T9 := Lib.hid t9
    have HWw := Lib.hid (show w.heap.size ≤ wc.heap.size from t9.size)
    clear T0 H0 HZ hcv z1 z2 z3 z5 d0 d1 e3 t9
    by_cases hq : E = 0
    · have hE0 : (E != 0) = false := by rw [hq]; rfl
      have HQ := Lib.hid hq
      have e01 : World.cell? _ ⟨K, 1, none⟩ = some (.int .i64 (h : Int)) := HW.out.k.cell 1
      have e02 : World.cell? _ ⟨K, 2, none⟩ = some (.int .i64 (nx : Int)) := HW.out.k.cell 2
      have e03 : World.cell? _ ⟨K, 3, none⟩ = some v := HW.out.k.cell 3
      have f1 := HW.out.k.free 1
      have f2 := HW.out.k.free 2
      have f3 := HW.out.k.free 3
      clear hq
      go_wp2_with fail
      go_ret
      obtain ⟨wa, hwa⟩ : ∃ wa, wa = (wc.setCell ⟨K, 1, none⟩ (.int .i64 (g : Int))).setCell ⟨K, 2, none⟩ (.int .i64 (p : Int)) := ⟨_, rfl⟩
      rw [← hwa]
      have hn := HW.out.rt.nbox HW.out.k (by decide) (by decide)
      have ra : Rt wa q r S2 := by rw [hwa]; exact (HW.out.rt.off hn _ _).off hn _ _
      have ka : Has wa K 69 (rcs q g p v false) := by rw [hwa]; exact (HW.out.k.put 1 _).put 2 _
      have ta : Turn (fun k => k = K ∨ k = q ∨ k = r) w wa := by rw [hwa]; exact (T9.out.put (a := ⟨K, 1, none⟩) (.inl rfl) _).put (a := ⟨K, 2, none⟩) (.inl rfl) _
      have hs : wa.heap.size = wc.heap.size := by rw [hwa]; simp [World.setCell]
      have hwz := HWw.out
      rw [← hs]
      obtain ⟨wb, hwb⟩ : ∃ wb, wb = wa.setCell ⟨K, 3, none⟩ (.slice (some ⟨wa.heap.size, 0, none⟩) 1 1) := ⟨_, rfl⟩
      rw [← hwb]
      have rb : Rt wb q r S2 := by rw [hwb]; exact ra.off hn _ _
      have kb : Has wb K 69 (rcs q g p (.slice (some ⟨wa.heap.size, 0, none⟩) 1 1) false) := by rw [hwb]; exact ka.put 3 _
      have tb : Turn (fun k => k = K ∨ k = q ∨ k = r) w wb := by rw [hwb]; exact ta.put (a := ⟨K, 3, none⟩) (.inl rfl) _
      have hsb : wb.heap.size = wa.heap.size := by rw [hwb]; simp [World.setCell]
      have bb := boxed wb (.cells #[.string x] 9)
      have ro := one_row wb x
      rw [hsb] at ro
      refine ⟨by rw [HQ.out]; rfl, rb.up bb, tb.trans (Turn.of _ bb), ?_⟩
      rw [if_pos HQ.out, ← HE.out.2.2]
      exact ⟨wa.heap.size, by omega, by simp; omega, kb.up bb, ro⟩
    · have hE0 : (E != 0) = true := by simpa using hq
      have HQ := Lib.hid hq
      have e04 : World.cell? _ ⟨K, 4, none⟩ = some (.bool false) := HW.out.k.cell 4
      have f4 := HW.out.k.free 4
      clear hq
      go_wp2_with fail
      go_ret
      have hn := HW.out.rt.nbox HW.out.k (by decide) (by decide)
      refine ⟨rfl, HW.out.rt.off hn _ _, T9.out.put (a := ⟨K, 4, none⟩) (.inl rfl) _, ?_⟩
      rw [if_neg HQ.out]
      exact HW.out.k.put 4 _
end Go.Proofs.YtjffcgimdffkoaaGreatDoor
