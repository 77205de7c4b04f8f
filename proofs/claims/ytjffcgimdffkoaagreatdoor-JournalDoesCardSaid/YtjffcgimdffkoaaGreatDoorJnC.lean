/- Halves of a store: read. -/
import Derived.Test.YtjffcgimdffkoaaGreatDoorJnB
namespace Go.Proofs.YtjffcgimdffkoaaGreatDoor
open Go.RowKit

/-- so many blocks, from one on -/
def rowB (s : SS) (k K : Nat) : List ByteArray := (List.range K).map fun i => s.B (k + i)
theorem rowB_len (s : SS) (k K : Nat) : (rowB s k K).length = K := by simp [rowB]
theorem rowB_rows (s : SS) (k K : Nat) : rows (rowB s k K) = blks s.B k K := by simp [rows, rowB, blks, bl]
theorem St.off {w : World} {p b G i : Nat} {s : SS} (h : St w p b s) (h1 : G ≠ p) (h2 : G ≠ b) (v : Value) : St (w.setCell ⟨G, i, none⟩ v) p b s := by
  obtain ⟨cs, hc, hl⟩ := h.row
  exact ⟨h.head.off (Ne.symm h1) v, cs, hc.off (Ne.symm h2) v, hl⟩
/-- a store, a half in the box X, and a row of strings at G -/
structure Rd (w0 w : World) (p b X h n : Nat) (s : SS) (m : Int) (G : Nat) (xs : List ByteArray) : Prop where
  at_ : At w p b s m
  box : Has w X 60 (hv p h n)
  bel : Below w0.heap.size w0 w
  row : Has w G 9 (rowA xs)
  lo : w0.heap.size ≤ G
section
variable {w0 w w' : World} {p b X h n G : Nat} {s : SS} {m : Int} {xs : List ByteArray}
theorem Rd.up (H : Rd w0 w p b X h n s m G xs) (k : Below w.heap.size w w') : Rd w0 w' p b X h n s m G xs := ⟨H.at_.up k, H.box.up k, up2 H.bel k, H.row.up k, H.lo⟩
theorem Rd.drew (H : Rd w0 w p b X h n s m G xs) : Rd w0 w.drew p b X h n s m G xs := H.up ⟨rfl, rfl, rfl, Nat.le_refl _, fun _ _ => rfl⟩
theorem Rd.box3 (H : Rd w0 w p b X h n s m G xs) : Box3 w X p h n := H.box.box3
theorem Rd.place (H : Rd w0 w p b X h n s m G xs) (a : Nat) (hh : h ≤ 1) (hn : n ≤ 4096) (ha : a ≤ 100000) :
    Calls Tryz.prog 72 #[.agg #[.pointer (some ⟨p, 0, none⟩), .int .i64 (h : Int), .int .i64 (n : Int)], .int .i64 (a : Int)] w fun e w' => e = .returned (.int .i64 ((1 + h * n + a : Nat) : Int)) ∧ Rd w0 w' p b X h n s m G xs :=
  (place_any w p h n a hh hn ha).mono fun _ _ ⟨e, k⟩ => ⟨e, H.up k⟩
theorem Rd.read (H : Rd w0 w p b X h n s m G xs) (k : Nat) (h1 : k < s.n) (x : ByteArray) (hx : x = s.B k) :
    Calls Tryz.prog 43 #[.pointer (some ⟨p, 0, none⟩), .int .i64 (k : Int)] w fun e w' => e = .returned (.tuple #[.string x, .int .i64 0]) ∧ w = w' := by
  subst hx
  exact H.at_.read (a := (k : Int)) (by omega) (by omega)
theorem Rd.put (H : Rd w0 w p b X h n s m G xs) (i : Nat) (x : ByteArray) : Rd w0 (w.setCell ⟨G, i, none⟩ (.string x)) p b X h n s m G (xs.set i x) := by
  have hn := H.at_.st.nbox H.row (by decide) (by decide)
  have hX : X ≠ G := H.box.ne H.row (by decide)
  exact ⟨⟨H.at_.st.off hn.1 hn.2 _, H.at_.fine⟩, H.box.off hX _, H.bel.setCell H.lo _, H.row.puts i x, H.lo⟩
end

set_option maxRecDepth 100000 in
set_option maxHeartbeats 4000000 in
theorem hread_any (w : World) (p b h n a K : Nat) (s : SS) (m : Int) (hA : At w p b s m) (hh : h ≤ 1) (hn : n ≤ 4096) (ha : a ≤ 10000) (hK : K ≤ 10000) (hf : 1 + h * n + a + K ≤ s.n) :
    Calls Tryz.prog 54 #[.agg (hv p h n), .int .i64 (a : Int), .int .i64 (K : Int)] w fun e w' =>
      e = .returned (.slice (some ⟨w.heap.size + 1, 0, none⟩) K K) ∧ Has w' (w.heap.size + 1) 9 (rowA (rowB s (1 + h * n + a) K)) ∧ Below w.heap.size w w' := by
  obtain ⟨i0, hi, hz0, hz1, hz2⟩ := info_parts zeroS
  have hmk : ∀ W : World, (Instr.makeSlice 49 (.int .i64 (K : Int)) (.int .i64 (K : Int))).run Tryz.prog W = .ok (.slice (some ⟨W.heap.size, 0, none⟩) K K) (W.alloc (.cells (rowA (List.replicate K ⟨#[]⟩)) 9)) := fun W => by
    rw [run_make W 49 9 i0 _ Tryz.underlying49 hi hz0 .i64 .i64 K K (by omega) (by omega) (by rw [hz2]; omega) (by omega), hz1, ← made_strs]
    simp
  clear hi hz0 hz1 hz2
  obtain ⟨C, hC⟩ : ∃ C, C = rowA (List.replicate K ⟨#[]⟩) := ⟨_, rfl⟩
  rw [← hC] at hmk
  have H0 : Rd w ((w.alloc (.cells (hv p h n) 60)).alloc (.cells C 9)) p b w.heap.size h n s m (w.heap.size + 1) (List.replicate K ⟨#[]⟩) := by
    have hb := (boxed w (.cells (hv p h n) 60)).alloc (by simp) (.cells C 9)
    have h1 := Has.fresh (w.alloc (.cells (hv p h n) 60)) 9 C
    rw [show (w.alloc (.cells (hv p h n) 60)).heap.size = w.heap.size + 1 by simp, hC] at h1
    rw [hC] at hb ⊢
    exact ⟨hA.up hb, (Has.fresh w _ _).more _, hb, h1, by omega⟩
  clear hA hC
  unfold hv at *
  obtain ⟨W0, hW⟩ : ∃ W0, W0 = (w.alloc (.cells #[.pointer (some ⟨p, 0, none⟩), .int .i64 (h : Int), .int .i64 (n : Int)] 60)).alloc (.cells C 9) := ⟨_, rfl⟩
  rw [← hW] at H0
  obtain ⟨X, hX⟩ : ∃ X, X = w.heap.size := ⟨_, rfl⟩
  obtain ⟨G, hG⟩ : ∃ G, G = w.heap.size + 1 := ⟨_, rfl⟩
  rw [← hG, ← hX] at H0
  have HH := Lib.hid H0
  have HW := Lib.hid hW
  have HX := Lib.hid hX
  have HG := Lib.hid hG
  clear H0 hW hX hG
  go_enter Tryz.func54, Tryz.ntmps54
  go_wp2_with fail
  rw [← HW.out, ← HG.out, ← HX.out]
  clear hmk
  go_loopw [13] (fun vi wr => ∃ i : Nat, i ≤ K ∧ vi = .int .i64 (i : Int) ∧ Hid (Rd w wr p b X h n s m G (rowB s (1 + h * n + a) i ++ List.replicate (K - i) ⟨#[]⟩))) (fun vi _ => K - (intOf vi).toNat)
  case atStart => exact ⟨0, Nat.zero_le _, rfl, by simpa [rowB] using HH⟩
  case round =>
    obtain ⟨i, hi, rfl, HI⟩ := hrel
    clear HH
    by_cases hlt : i < K
    · have hlen : (rowB s (1 + h * n + a) i ++ List.replicate (K - i) (⟨#[]⟩ : ByteArray)).length = K := by simp [rowB_len]; omega
      obtain ⟨q, hq⟩ : ∃ q, q = a + i := ⟨_, rfl⟩
      have e1 : IntKind.i64.wrap ((a : Int) + (i : Int)) = (q : Int) := by rw [hq]; exact IntWalk.i64_in _ (by omega)
      obtain ⟨k, hk⟩ : ∃ k, k = 1 + h * n + q := ⟨_, rfl⟩
      obtain ⟨x, hx⟩ : ∃ x, x = s.B k := ⟨_, rfl⟩
      have hkn : k < s.n := by omega
      have hq2 : q ≤ 20000 := by omega
      obtain ⟨L, hL⟩ : ∃ L, L = rowB s (1 + h * n + a) i ++ List.replicate (K - i) (⟨#[]⟩ : ByteArray) := ⟨_, rfl⟩
      have HN : Hid (L.set i x = rowB s (1 + h * n + a) (i + 1) ++ List.replicate (K - (i + 1)) ⟨#[]⟩) := by
        show L.set i x = _
        rw [hL, hx, show k = 1 + h * n + a + i by omega]
        exact rows_next K i (fun i => s.B (1 + h * n + a + i)) hlt
      rw [← hL] at HI hlen
      obtain ⟨x0, hx0⟩ : ∃ x0, L[i]? = some x0 := ⟨_, List.getElem?_eq_getElem (by omega)⟩
      have HX0 : Hid (∀ W : World, Has W G 9 (rowA L) → W.cell? ⟨G, i, none⟩ = some (.string x0) ∧ W.frozen? ⟨G, i, none⟩ = false) := fun W hW => ⟨by have := hW.strs i x0 hx0; rwa [Nat.zero_add] at this, hW.free i⟩
      have HK := Lib.hid hk
      have Hx := Lib.hid hx
      have H1 := HI
      have B3 := H1.out.box3
      unfold Box3 at B3
      obtain ⟨c0, c1, c2⟩ := B3
      clear HI hL hlen hx0 hq hk hx
      go_wp2_with fail
      go_region_held3 (fun w' => w'.cell? ⟨X, 0, none⟩ = some (.pointer (some ⟨p, 0, none⟩)) ∧ w'.cell? ⟨X, 1, none⟩ = some (.int .i64 (h : Int)) ∧ w'.cell? ⟨X, 2, none⟩ = some (.int .i64 (n : Int)))
        ((change Box3 _ X p h n; with_reducible (first | exact H1.out.drew.box3 | exact k1.out.box3 | exact (k1.out.put i x).box3)))
        (first | (go_at_call 72; ((with_reducible refine (H1.out.drew.place q (by omega) (by omega) (by omega)).mono ?_); rw [← HK.out]; rintro e w1 ⟨rfl, g1⟩; have k1 := Lib.hid g1; obtain ⟨d0, d1⟩ := HX0.out w1 g1.row; clear g1)) | (go_at_call 43; ((with_reducible refine (k1.out.read k (by omega) x Hx.out).mono ?_); rintro e w2 ⟨rfl, rfl⟩)))
      all_goals
        have HR := Lib.hid (k1.out.put i x)
        rw [HN.out] at HR
        go_wp2
        go_roundw
        case rel => exact ⟨i + 1, by omega, by go_num, HR⟩
        case measure => simp [intOf]; omega
    · have hin : i = K := by omega
      have HR : Hid (Rd w wr p b X h n s m G (rowB s (1 + h * n + a) K)) := by
        have := HI.out
        rw [hin, Nat.sub_self, List.replicate_zero, List.append_nil] at this
        exact this
      clear HI hin
      go_wp2
      go_ret
      rw [← HG.out]
      exact ⟨rfl, HR.out.row, HR.out.bel⟩
end Go.Proofs.YtjffcgimdffkoaaGreatDoor
