/- Both journals' calls; both opened. -/
import Derived.Test.YtjffcgimdffkoaaGreatDoorQjK
namespace Go.Proofs.YtjffcgimdffkoaaGreatDoor
open Go.RowKit

section
variable {w0 w w' : World} {p b q r J K X : Nat} {s s' z : SS} {j j' : JS} {m k : Int} {cs : Array Value}
theorem Bx.app (H : Bx w0 w p b q r J K s s' j j' m X cs) (hT : Tb w0) (hm : m ≤ 800000) (x : ByteArray) (hx : x.size ≤ maxLen) :
    Calls Tryz.prog 10 #[.pointer (some ⟨J, 0, none⟩), .string x] w fun e w' => e = .returned (.int .i64 (appS s j x.data.toList).2.2) ∧ Bx w0 w' p b q r J K (appS s j x.data.toList).1 s' (appS s j x.data.toList).2.1 j' (m + 10000) X cs := by
  obtain ⟨R, v, R', v', h1, h2, h3, h4, h5, h6, h7⟩ := H.ex
  refine (append_any w J R p b v s m j x h1 hm h3 hx (hT.old H.bel)).mono ?_
  rintro e w' ⟨he, ⟨R1, v1, hR, hj⟩, ht⟩
  exact ⟨he, H.left h1 h2 h4 h5 h6 h7 hR hj (app_ok _ h3).1 ht⟩
theorem Bx.snap (H : Bx w0 w p b q r J K s s' j j' m X cs) (hT : Tb w0) (hm : m ≤ 800000) (x : ByteArray) (hx : x.size ≤ maxLen) :
    Calls Tryz.prog 12 #[.pointer (some ⟨J, 0, none⟩), .string x] w fun e w' => e = .returned (.int .i64 (snapS s j x.data.toList).2.2) ∧ Bx w0 w' p b q r J K (snapS s j x.data.toList).1 s' (snapS s j x.data.toList).2.1 j' (m + 10000) X cs := by
  obtain ⟨R, v, R', v', h1, h2, h3, h4, h5, h6, h7⟩ := H.ex
  refine (snap_any w J R p b v s m j x h1 hm h3 hx (hT.old H.bel)).mono ?_
  rintro e w' ⟨he, ⟨R1, v1, hR, hj⟩, ht⟩
  exact ⟨he, H.left h1 h2 h4 h5 h6 h7 hR hj (snap_okay _ h3).1 ht⟩
theorem Bx.rapp (H : Bx w0 w p b q r J K s s' j j' m X cs) (hF : Fine s' k) (hk : k ≤ 800000) (x : ByteArray) (hx : x.size ≤ maxLen) :
    Calls Tryz.prog 11 #[.pointer (some ⟨K, 0, none⟩), .string x] w fun e w' => e = .returned (.int .i64 (appS s' j' x.data.toList).2.2) ∧ Bx w0 w' p b q r J K s (appS s' j' x.data.toList).1 j (appS s' j' x.data.toList).2.1 m X cs := by
  obtain ⟨R, v, R', v', h1, h2, h3, h4, h5, h6, h7⟩ := H.ex
  refine (rappend_any w K R' q r v' s' k j' x h2 hF hk (h4.okr hF.hi) hx).mono ?_
  rintro e w' ⟨he, ⟨R1, v1, hR, hj⟩, ht⟩
  exact ⟨he, H.right h1 h2 h3 h5 h6 h7 hR hj (app_ok _ h4).1 ht⟩
theorem Bx.rsnap (H : Bx w0 w p b q r J K s s' j j' m X cs) (hF : Fine s' k) (hk : k ≤ 800000) (x : ByteArray) (hx : x.size ≤ maxLen) :
    Calls Tryz.prog 13 #[.pointer (some ⟨K, 0, none⟩), .string x] w fun e w' => e = .returned (.int .i64 (snapS s' j' x.data.toList).2.2) ∧ Bx w0 w' p b q r J K s (snapS s' j' x.data.toList).1 j (snapS s' j' x.data.toList).2.1 m X cs := by
  obtain ⟨R, v, R', v', h1, h2, h3, h4, h5, h6, h7⟩ := H.ex
  refine (rsnap_any w K R' q r v' s' k j' x h2 hF hk (h4.okr hF.hi) hx).mono ?_
  rintro e w' ⟨he, ⟨R1, v1, hR, hj⟩, ht⟩
  exact ⟨he, H.right h1 h2 h3 h5 h6 h7 hR hj (snap_okay _ h4).1 ht⟩
theorem Bx.fuse (H : Bx w0 w p b q r J K s s' j j' m X cs) (a t : Int) (hn : a ≤ 9223372036854775807) :
    Calls Tryz.prog 14 #[.pointer (some ⟨p, 0, none⟩), .int .i64 a, .int .i64 t] w fun e w' => e = .returned (.tuple #[]) ∧ Bx w0 w' p b q r J K (fuS s a t) s' j j' m X cs := by
  obtain ⟨R, v, R', v', h1, h2, h3, h4, h5, h6, h7⟩ := H.ex
  refine (h1.at_.fuse hn rfl).mono ?_
  rintro e w' ⟨he, ha, hb⟩
  have hf := fu_n s a t
  have hnk := h1.at_.st.nbox h1.jv.head (by decide) (by decide)
  refine ⟨he, H.left h1 h2 h4 h5 h6 h7 (R1 := R) (.inl rfl) (v1 := v) ⟨ha, ?_, h1.ne⟩ (by rw [hf]; exact h3) (hb.turn (.inr (.inl rfl)) (.inr (.inr (.inl rfl))))⟩
  rw [hf]
  exact h1.jv.but hb ⟨hnk.1, hnk.2⟩ h1.ne.2
theorem Bx.rfuse (H : Bx w0 w p b q r J K s s' j j' m X cs) (a t : Int) :
    Calls Tryz.prog 15 #[.pointer (some ⟨q, 0, none⟩), .int .i64 a, .int .i64 t] w fun e w' => e = .returned (.tuple #[]) ∧ Bx w0 w' p b q r J K s (fuS s' a t) j j' m X cs := by
  obtain ⟨R, v, R', v', h1, h2, h3, h4, h5, h6, h7⟩ := H.ex
  refine (rfuse_any w q r s' a t h2.rt).mono ?_
  rintro e w' ⟨he, ha, hb⟩
  have hf := fu_n s' a t
  have hnk := h2.rt.nbox h2.head (by decide) (by decide)
  have hl := h2.ne
  have tt : Turn (fun k => k = K ∨ k = q ∨ k = r) w w' := hb.turn (.inr (.inl rfl)) (.inr (.inr rfl))
  have t2 : Turn (fun k => k = q ∨ k = r) w w' := hb.turn (.inl rfl) (.inr rfl)
  exact ⟨he, H.right h1 h2 h3 h5 h6 h7 (R1 := R') (.inl rfl) (v1 := v') ⟨t2.has h2.head (by omega), h2.recs.of fun _ hc => t2.has hc (by omega), ha, h2.ne, Nat.lt_of_lt_of_le h2.lt t2.size⟩ (by rw [hf]; exact h4) tt⟩

/-- both opened, where something is told -/
theorem Sb.open_some {S : SS} (H : Sb w0 w p b q r s s m) (ho : openS s = (S, some j, 0)) (hT : Tb w0) (hm : m ≤ 800000) :
    Calls Tryz.prog 8 #[.pointer (some ⟨p, 0, none⟩)] w fun e w1 => ∃ J, e = .returned (.tuple #[.pointer (some ⟨J, 0, none⟩), .int .i64 0]) ∧
      Hid (Calls Tryz.prog 9 #[.pointer (some ⟨q, 0, none⟩)] w1 fun e w2 => ∃ K, e = .returned (.tuple #[.pointer (some ⟨K, 0, none⟩), .int .i64 0]) ∧ Bj w0 w2 p b q r J K S S j j (m + 10000)) := by
  have := open_any w p b s m H.at_ hm (hT.old H.bel)
  rw [ho] at this
  refine this.mono ?_
  rintro e w1 ⟨hb, _, J, R, v, a1, a2, he, a4, a5⟩
  refine ⟨J, he, Lib.hid ?_⟩
  have hrt := H.rt.but H.at_.st hb
  have hr := ropen_any w1 q r s m hrt H.at_.fine hm
  rw [ho] at hr
  refine hr.mono ?_
  rintro e w2 ⟨ht, _, K, R', v', b1, b2, he2, hj⟩
  have hlow := a4.lows
  have hap := H.at_.st.apart H.rt
  obtain ⟨cap, T, hh, _⟩ := H.rt.head
  obtain ⟨cs, hc, _⟩ := H.rt.row
  have hq := hh.lt
  have hrr := hc.lt
  have hs := H.bel.size
  have hlo := H.lo
  have hs1 := hb.size
  have hjat := a4.kept ht (fun x hx z => by
    rcases hx with y | y | y | y
    · omega
    · omega
    · rcases z with z | z <;> omega
    · rcases z with z | z <;> omega)
  refine ⟨K, he2, ⟨R, v, R', v', hjat, hj, a5, a5, ?_, ?_⟩, ?_⟩
  · intro x y hx hy
    have hxl := hlow x hx
    rcases hy with z | z | z | z
    · omega
    · omega
    · rcases hx with y | y | y | y <;> omega
    · rcases hx with y | y | y | y <;> omega
  · intro x hx
    rcases hx with z | z | z | z | z | z | z | z <;> omega
  · exact (H.bel.trans (hb.below hs hlo.1 hlo.2.1)).trans (ht.below (by omega) (fun x hx => by omega))
/-- both opened, where nothing can be told -/
theorem Sb.open_none {S : SS} {E : Int} (H : Sb w0 w p b q r s s m) (ho : openS s = (S, none, E)) (hT : Tb w0) (hm : m ≤ 800000) :
    Calls Tryz.prog 8 #[.pointer (some ⟨p, 0, none⟩)] w fun e w1 => e = .returned (.tuple #[.pointer none, .int .i64 E]) ∧
      Hid (Calls Tryz.prog 9 #[.pointer (some ⟨q, 0, none⟩)] w1 fun e w2 => e = .returned (.tuple #[.pointer none, .int .i64 E]) ∧ Sb w0 w2 p b q r S S (m + 10000)) := by
  have := open_any w p b s m H.at_ hm (hT.old H.bel)
  rw [ho] at this
  refine this.mono ?_
  rintro e w1 ⟨hb, _, he, a4⟩
  refine ⟨he, Lib.hid ?_⟩
  have hrt := H.rt.but H.at_.st hb
  have hr := ropen_any w1 q r s m hrt H.at_.fine hm
  rw [ho] at hr
  refine hr.mono ?_
  rintro e w2 ⟨ht, he2, hj⟩
  have hap := H.at_.st.apart H.rt
  have hlo := H.lo
  have hs := H.bel.size
  have hs1 := hb.size
  refine ⟨he2, ⟨⟨a4.st.kept ht ?_ ?_, a4.fine⟩, hj, ?_, H.lo⟩⟩
  · omega
  · omega
  · exact (H.bel.trans (hb.below hs hlo.1 hlo.2.1)).trans (ht.below (by omega) (fun x hx => by omega))
end

set_option maxRecDepth 100000 in
set_option maxHeartbeats 2000000 in
theorem same_none {w0 w : World} {p b q r : Nat} {s : SS} {m : Int} (H : Sb w0 w p b q r s s m) :
    Calls Tryz.prog 21 #[.pointer none, .pointer none, .pointer (some ⟨p, 0, none⟩), .pointer (some ⟨q, 0, none⟩)] w fun e w' => e = .returned (.bool true) ∧ Below w.heap.size w w' := by
  obtain ⟨cap, T, hh, _⟩ := H.rt.head
  obtain ⟨cs, hc, hl⟩ := H.rt.row
  obtain ⟨cp, hcp⟩ : ∃ cp, cp = s.n + cap := ⟨_, rfl⟩
  have j0 : w.cell? ⟨q, 0, none⟩ = some (.slice (some ⟨r, 0, none⟩) s.n cp) := by rw [hcp]; exact hh.cell 0
  have HA := Lib.hid H.at_
  have HC := Lib.hid hc
  have HL := Lib.hid hl
  have hn := H.at_.fine.hi
  clear H hh hc hl hcp
  go_enter Tryz.func21, Tryz.ntmps21
  go_wp2_with fail
  go_loop [17] (fun i => ∃ k : Nat, k ≤ s.n ∧ i = .int .i64 (k : Int)) (fun i => s.n - (intOf i).toNat)
  case atStart => exact ⟨0, by omega, rfl⟩
  case round =>
    obtain ⟨k, hk, rfl⟩ := hrel
    by_cases hlt : k < s.n
    · have i1 : (k : Int) < (s.n : Int) := by omega
      have j1 : w.cell? ⟨r, k, none⟩ = some (.string (s.B k)) := by rw [HC.out.cell]; exact HL.out k hlt
      go_wp2_with fail
      refine (HA.out.read (a := (k : Int)) (by omega) i1).mono ?_
      rintro e w1 ⟨rfl, rfl⟩
      rw [Int.toNat_natCast]
      go_wp2_with fail
      go_round
      case rel => exact ⟨k + 1, by omega, by go_num⟩
      case measure => simp [intOf]; omega
    · obtain rfl : k = s.n := by omega
      go_wp2_with fail
      go_ret
      exact ⟨rfl, Below.refl _ _⟩

def S3 (w : World) (K R' o l c : Nat) (t : ByteArray) : Prop := w.cell? ⟨K, 3, none⟩ = some (.slice (some ⟨R', o, none⟩) (l + 1) c) ∧ w.cell? ⟨R', o, none⟩ = some (.string t)
theorem S3.up {w w' : World} {K R' o l c : Nat} {t : ByteArray} (H : S3 w K R' o l c t) (k : Below w.heap.size w w') : S3 w' K R' o l c t := ⟨kcell k H.1, kcell k H.2⟩
theorem S3.drew {w : World} {K R' o l c : Nat} {t : ByteArray} (H : S3 w K R' o l c t) : S3 w.drew K R' o l c t := H
theorem S3.drewN {w : World} {K R' o l c : Nat} {t : ByteArray} (H : S3 w K R' o l c t) (n : Nat) : S3 (w.drewN n) K R' o l c t := H
set_option maxRecDepth 100000 in
set_option maxHeartbeats 4000000 in
theorem same_some {w0 w : World} {p b q r J K : Nat} {s : SS} {j : JS} {m : Int} (H : Bj w0 w p b q r J K s s j j m) :
    Calls Tryz.prog 21 #[.pointer (some ⟨J, 0, none⟩), .pointer (some ⟨K, 0, none⟩), .pointer (some ⟨p, 0, none⟩), .pointer (some ⟨q, 0, none⟩)] w fun e w' => e = .returned (.bool true) ∧ Below w.heap.size w w' := by
  obtain ⟨R, v, R', v', h1, h2, h3, _, _, _⟩ := H.ex
  obtain ⟨cap, T, hh, _⟩ := h2.rt.head
  obtain ⟨cs, hc, hl⟩ := h2.rt.row
  obtain ⟨cp, hcp⟩ : ∃ cp, cp = s.n + cap := ⟨_, rfl⟩
  have j0 : w.cell? ⟨q, 0, none⟩ = some (.slice (some ⟨r, 0, none⟩) s.n cp) := by rw [hcp]; exact hh.cell 0
  have HA := Lib.hid h1.at_
  have HC := Lib.hid hc
  have HL := Lib.hid hl
  have hn := h1.at_.fine.hi
  have hn3 := h1.at_.fine.lo
  obtain ⟨x0, L0, hLL⟩ : ∃ x0 L0, j.L = x0 :: L0 := by
    cases hj : j.L with
    | nil => exact absurd hj h3.ne
    | cons a l => exact ⟨a, l, rfl⟩
  have hrow := h2.recs
  rw [hLL, List.map_cons] at hrow
  obtain ⟨o, c, o1, c1', rfl, hcc, hcm, hx0, hrow1, hsl⟩ := hrow.cut
  obtain ⟨xs, hxs⟩ : ∃ xs, xs = L0.map str := ⟨_, rfl⟩
  obtain ⟨t, ht⟩ : ∃ t, t = str x0 := ⟨_, rfl⟩
  obtain ⟨Z, hZ⟩ : ∃ Z, Z = (til s.n j.half : Int) - (j.next : Int) := ⟨_, rfl⟩
  rw [← hxs] at hcc hrow1 hsl
  rw [← ht] at hx0
  have hxl : xs.length ≤ 100000 := by have := h3.len hn; rw [hLL] at this; rw [hxs]; simp at this ⊢; omega
  have d0 : w.cell? ⟨K, 3, none⟩ = _ := h2.head.cell 3
  rw [← hxs] at d0
  obtain ⟨l, hlx⟩ : ∃ l, l = xs.length := ⟨_, rfl⟩
  have B0 : Hid (Below w.heap.size w w.drew) := ⟨rfl, rfl, rfl, Nat.le_refl _, fun _ _ => rfl⟩
  have HTx : Hid (∀ W : World, Below w.heap.size w W → Calls Tryz.prog 22 #[.pointer (some ⟨J, 0, none⟩)] W fun e w' => e = .returned (.string t) ∧ W = w') := fun W hb => by
    have := text_any W J R v p s.n j (h1.jv.up hb)
    rwa [hLL, show (x0 :: L0).headD [] = x0 from rfl, ← ht] at this
  have HRc : Hid (∀ W : World, Below w.heap.size w W → Calls Tryz.prog 24 #[.pointer (some ⟨J, 0, none⟩)] W (Strl W W.heap.size xs)) := fun W hb => by
    have := records_any W J R v p s.n j (h1.jv.up hb) h3 hn
    rwa [hLL, show (x0 :: L0).tail = L0 from rfl, ← hxs] at this
  have HSm : Hid (∀ (W : World) (a' : Option Addr) (c' : Nat), StrA W a' xs → Below w.heap.size w W → Calls Tryz.prog 23 #[.slice a' xs.length c', .slice (some ⟨R', o1, none⟩) xs.length c1'] W fun e w' => e = .returned (.bool true) ∧ ∃ n, w' = W.drewN n) := fun W a' c' ha hb => by
    obtain ⟨a9, c9, e9, h9, _⟩ := (hrow1.up hb).form
    injection e9 with e9 _ _
    have := same_on a' (some ⟨R', o1, none⟩) c' c1' xs xs W ha (by rw [e9]; exact h9) hxl
    exact this.mono fun e w' h => ⟨by rw [h.1, decide_eq_true rfl], h.2⟩
  have HRm : Hid (∀ W : World, Below w.heap.size w W → Calls Tryz.prog 25 #[.pointer (some ⟨J, 0, none⟩)] W fun e w' => e = .returned (.int .i64 Z) ∧ ∃ n, w' = W.drewN n) := fun W hb => by
    rw [hZ]; exact room_any W J R v p s.n j (h1.jv.up hb) h3 hn
  have HJm : Hid (∀ W : World, Below w.heap.size w W → Calls Tryz.prog 44 #[.pointer (some ⟨K, 0, none⟩)] W fun e w' => e = .returned (.int .i64 Z) ∧ ∃ n, w' = W.drewN n) := fun W hb => by
    rw [hZ]; exact rroom_any W K R' q r _ s j (h2.up hb) (h3.okr hn) hn3 hn
  rw [← hlx] at hsl d0 HSm
  have d0' : w.cell? ⟨K, 3, none⟩ = some (.slice (some ⟨R', o, none⟩) (l + 1) c) := d0
  have S0 : Hid (S3 w K R' o l c t) := ⟨d0', hx0⟩
  have HL2 := Lib.hid (And.intro hlx hcc)
  have hl1 : (0 : Int) ≤ (l : Int) := by omega
  have hl0 : (0 : Int) < (l : Int) + 1 := by omega
  have ht1 : (t.toList == t.toList) = true := by simp
  have hz1 : (Z == Z) = true := by simp
  clear H hh hc hl hcp h1 h2 h3 hLL hrow hxs ht hZ hxl hrow1 hcc d0 hlx
  go_enter Tryz.func21, Tryz.ntmps21
  go_wp2_with fail
  go_loop [17] (fun i => ∃ k : Nat, k ≤ s.n ∧ i = .int .i64 (k : Int)) (fun i => s.n - (intOf i).toNat)
  case atStart => exact ⟨0, by omega, rfl⟩
  case round =>
    obtain ⟨k, hk, rfl⟩ := hrel
    by_cases hlt : k < s.n
    · have i1 : (k : Int) < (s.n : Int) := by omega
      have j1 : w.cell? ⟨r, k, none⟩ = some (.string (s.B k)) := by rw [HC.out.cell]; exact HL.out k hlt
      go_wp2_with fail
      refine (HA.out.read (a := (k : Int)) (by omega) i1).mono ?_
      rintro e w1 ⟨rfl, rfl⟩
      rw [Int.toNat_natCast]
      go_wp2_with fail
      go_round
      case rel => exact ⟨k + 1, by omega, by go_num⟩
      case measure => simp [intOf]; omega
    · have hkn : ¬ ((k : Int) < (s.n : Int)) := by omega
      clear hlt
      go_wp2_with fail
      go_region_held3 (fun w' => w'.cell? ⟨K, 3, none⟩ = some (.slice (some ⟨R', o, none⟩) (l + 1) c) ∧ w'.cell? ⟨R', o, none⟩ = some (.string t))
        ((change S3 _ K R' o l c t; with_reducible (first | exact S0.out.drew | exact k2.out | exact k3.out | exact k4.out | exact k5.out)))
        (first | (go_at_call 22; ((with_reducible refine (HTx.out _ B0.out).mono ?_); rintro e w1 ⟨rfl, rfl⟩)) | (go_at_call 24; ((with_reducible refine (HRc.out _ B0.out).mono ?_); rintro e w2 ⟨a', c', rfl, g1, g2, g3⟩; have k1 := Lib.hid g1; have b2 := Lib.hid (up2 B0.out g3); have k2 := Lib.hid (S0.out.drew.up g3); clear g1 g2 g3; rw [← HL2.out.1])) | (go_at_call 23; ((with_reducible refine (HSm.out _ _ _ k1.out b2.out).mono ?_); rintro e w3 ⟨rfl, n3, rfl⟩; have b3 := Lib.hid (blw b2.out n3); have k3 := Lib.hid (k2.out.drewN n3))) | (go_at_call 25; ((with_reducible refine (HRm.out _ b3.out).mono ?_); rintro e w4 ⟨rfl, n4, rfl⟩; have b4' := blw b3.out n4; rw [drewN_two] at b4'; have k4' := k3.out.drewN n4; rw [drewN_two] at k4'; have b4 := Lib.hid b4'; have k4 := Lib.hid k4'; clear b4' k4')) | (go_at_call 44; ((with_reducible refine (HJm.out _ b4.out).mono ?_); rintro e w5 ⟨rfl, n5, rfl⟩; have b5' := blw b4.out n5; rw [drewN_two] at b5'; have k5' := k4.out.drewN n5; rw [drewN_two] at k5'; have b5 := Lib.hid b5'; have k5 := Lib.hid k5'; clear b5' k5')))
      all_goals
        go_wp2_with fail
        go_ret
        exact ⟨rfl, b5.out⟩
end Go.Proofs.YtjffcgimdffkoaaGreatDoor
