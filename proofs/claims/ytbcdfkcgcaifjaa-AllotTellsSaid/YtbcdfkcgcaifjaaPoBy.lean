/- Contracts: portion.byRest and the closure that it gives. -/
import Derived.Test.YtbcdfkcgcaifjaaSoAll
import Derived.Test.YtbcdfkcgcaifjaaBy
namespace Go.Proofs.Ytbcdfkcgcaifjaa
open Go.RowKit

set_option maxHeartbeats 400000 in
theorem next_any (W : World) (ab pb b n k : Nat) (h : Nat → Int) (hk : k < n) (hn : n ≤ 1000000) (ha : W.cell? ⟨ab, 0, none⟩ = some (.int .i64 ((k : Int) - 1))) (hf : W.frozen? ⟨ab, 0, none⟩ = false)
    (hp : W.cell? ⟨pb, 0, none⟩ = some (.slice (some ⟨b, 0, none⟩) n n)) (hc : W.cell? ⟨b, k, none⟩ = some (.int .i64 (h k))) (e1 : pb ≠ ab) (e2 : b ≠ ab) :
    Calls Try.prog 58 #[.pointer (some ⟨ab, 0, none⟩), .pointer (some ⟨pb, 0, none⟩)] W fun e w' => e = .returned (.int .i64 (h k)) ∧ w' = W.setCell ⟨ab, 0, none⟩ (.int .i64 k) := by
  have i1 : IntKind.i64.wrap ((k : Int) - 1 + 1) = (k : Int) := by rw [IntKind.wrap_i64]; omega
  have i2 : IntKind.i64.wrap (k : Int) = (k : Int) := by rw [IntKind.wrap_i64]; omega
  have c1 : (W.setCell ⟨ab, 0, none⟩ (.int .i64 k)).cell? ⟨ab, 0, none⟩ = some (.int .i64 k) := World.cell?_setCell_same' _ _ _ (by rw [ha]; rfl)
  have c2 : (W.setCell ⟨ab, 0, none⟩ (.int .i64 k)).cell? ⟨pb, 0, none⟩ = some (.slice (some ⟨b, 0, none⟩) n n) := by rw [World.cell?_setCell_other _ _ _ _ (by intro q; injection q; omega)]; exact hp
  have c3 : (W.setCell ⟨ab, 0, none⟩ (.int .i64 k)).cell? ⟨b, k, none⟩ = some (.int .i64 (h k)) := by rw [World.cell?_setCell_other _ _ _ _ (by intro q; injection q; omega)]; exact hc
  clear e1 e2 hp hc
  go_enter Try.func58, Try.ntmps58
  go_wp2_with fail
  go_ret
  exact ⟨rfl, rfl⟩

/-- byRest's blocks: the rests' box, the places, their box -/
structure ByAt (w W : World) (g n rb b pb : Nat) (K f : Nat → Int) : Prop where
  bel : Below w.heap.size w W
  rests : Rests W rb g n K
  ints : Ints W b n f
  box : W.cell? ⟨pb, 0, none⟩ = some (.slice (some ⟨b, 0, none⟩) n n)
  r0 : w.heap.size ≤ rb
  b0 : w.heap.size ≤ b
  p0 : w.heap.size ≤ pb
  g0 : g < w.heap.size
  rb' : rb ≠ b
  pb' : pb ≠ b

theorem made_ints {w1 : World} {base g n : Nat} {e : TypeId} (h : w1.ownsRow base e 1 (.slice (some ⟨g, 0, none⟩) n n) n (madeCells #[Value.int .i64 0] n).toList) : Ints w1 g n (fun _ => 0) := by
  rw [toList_madeCells_one] at h
  intro t ht
  refine ⟨?_, h.frozenAt t⟩
  rw [h.cellAt t (by simpa using ht)]
  rw [List.getElem?_replicate]; simp; omega
theorem ByAt.put {w W : World} {g n rb b pb : Nat} {K f : Nat → Int} (h : ByAt w W g n rb b pb K f) {k : Nat} (hk : k < n) (v : Int) : ByAt w (W.setCell ⟨b, k, none⟩ (.int .i64 v)) g n rb b pb K (fun s => if s = k then v else f s) := by
  have q : But b W (W.setCell ⟨b, k, none⟩ (.int .i64 v)) := (But.refl b W).set k _
  have hg : g ≠ b := by have := h.g0; have := h.b0; omega
  exact ⟨h.bel.setCell h.b0 _, h.rests.but q h.rb' hg, ints_set h.ints hk v, (q.cell (p := ⟨pb, 0, none⟩) h.pb').trans h.box, h.r0, h.b0, h.p0, h.g0, h.rb', h.pb'⟩
theorem ints_same {W : World} {b n : Nat} {f g : Nat → Int} (h : Ints W b n f) (e : ∀ t, t < n → g t = f t) : Ints W b n g := fun t ht => by rw [e t ht]; exact h t ht

/-- what byRest leaves: the closure's own blocks -/
def ByPost (w : World) (n : Nat) (K : Nat → Int) (e : Ending) (w' : World) : Prop :=
  ∃ ab pb b h, e = .returned (.func (.func 58) #[] #[.pointer (some ⟨ab, 0, none⟩), .pointer (some ⟨pb, 0, none⟩)]) ∧ Below w.heap.size w w' ∧ w.heap.size ≤ ab ∧ w.heap.size ≤ pb ∧ w.heap.size ≤ b ∧ pb ≠ ab ∧ b ≠ ab ∧
    w'.cell? ⟨ab, 0, none⟩ = some (.int .i64 (-1)) ∧ w'.frozen? ⟨ab, 0, none⟩ = false ∧ w'.cell? ⟨pb, 0, none⟩ = some (.slice (some ⟨b, 0, none⟩) n n) ∧ Ints w' b n h ∧ Piece n K h 0 n ∧ SameSum n h

set_option maxRecDepth 100000 in
set_option maxHeartbeats 1000000 in
theorem byRest_any (w : World) (g n : Nat) (K : Nat → Int) (h0 : 0 < n) (hn : n ≤ 64) (hg : g < w.heap.size) (hc : ∀ t, t < n → w.cell? ⟨g, t, none⟩ = some (.int .i64 (K t))) :
    Calls Try.prog 50 #[.slice (some ⟨g, 0, none⟩) n n] w (ByPost w n K) := by
  obtain ⟨i0, hi, hz0, hz1, hz2⟩ := info_parts Try.infoInt
  have HC := Lib.hid hc
  clear hc
  go_enter Try.func50, Try.ntmps50
  go_upto_region 1 with fail
  obtain ⟨W0, hW0⟩ : ∃ W0, W0 = w.alloc (.cells #[.slice (some ⟨g, 0, none⟩) n n] 22) := ⟨_, rfl⟩
  have HR : Hid (Rests W0 w.heap.size g n K) := by
    rw [hW0]
    exact ⟨by simp [go_sem], fun t ht => kcell ((Below.refl _ _).alloc (Nat.le_refl _) _) (HC.out t ht)⟩
  have HB : Hid (Below w.heap.size w W0) := by rw [hW0]; exact (Below.refl _ _).alloc (Nat.le_refl _) _
  have hs : w.heap.size + 1 = W0.heap.size := by rw [hW0]; simp
  rw [← hW0]
  clear hW0
  have c0 := HR.out.1
  obtain ⟨rb, hrb⟩ : ∃ rb, rb = w.heap.size := ⟨_, rfl⟩
  rw [← hrb] at HR c0 ⊢
  have hrl : rb < W0.heap.size := by omega
  have HRB := Lib.hid hrb
  have HSZ := Lib.hid hs
  clear hrb hs
  go_wp2_with (at_make; refine wpList_make_full _ rfl _ _ 23 rfl W0.heap.size 3 i0 (.int .i64 0) 1 Try.underlying23 hi hz0 hz1 .i64 .i64 _ _ n rfl rfl ?c1 ?c2 ?c3 ?c4 ?c5 ?_)
  case c1 => rfl
  case c2 => rfl
  case c3 => rw [hz2]; omega
  case c4 => unfold maxLen; omega
  case c5 => exact Nat.le_refl _
  intro w1 hown hgrow
  have hb1 : Below W0.heap.size W0 w1 := (Below.refl _ _).grown hgrow (Nat.le_refl _) (fun k hk => by simp at hk)
  have hi1 := made_ints hown
  have hlt1 : W0.heap.size < w1.heap.size := World.block_lt_of_cell? (a := ⟨W0.heap.size, 0, none⟩) _ (hi1 0 h0).1
  have hb2 : Below w1.heap.size w1 (w1.alloc (.cells #[.slice (some ⟨W0.heap.size, 0, none⟩) n n] 23)) := (Below.refl _ _).alloc (Nat.le_refl _) _
  have HA : Hid (ByAt w (w1.alloc (.cells #[.slice (some ⟨W0.heap.size, 0, none⟩) n n] 23)) g n rb W0.heap.size w1.heap.size K (fun _ => 0)) := by
    have e1 := HRB.out; have e2 := HSZ.out; have e3 := hb1.size
    have q1 : Rests w1 rb g n K := ⟨(hb1.cell (p := ⟨rb, 0, none⟩) hrl).trans HR.out.1, fun t ht => (hb1.cell (p := ⟨g, t, none⟩) (by show g < _; omega)).trans (HR.out.2 t ht)⟩
    refine ⟨(HB.out.trans (hb1.mono (by omega))).trans (hb2.mono (by omega)), ⟨kcell hb2 q1.1, fun t ht => kcell hb2 (q1.2 t ht)⟩, fun t ht => ⟨kcell hb2 (hi1 t ht).1, (hb2.frozen (p := ⟨W0.heap.size, t, none⟩) hlt1).trans (hi1 t ht).2⟩, by simp [go_sem], by omega, by omega, by omega, hg, by omega, by omega⟩
  go_wp2_with fail
  obtain ⟨W2, hW2⟩ : ∃ W2, W2 = w1.alloc (.cells #[.slice (some ⟨W0.heap.size, 0, none⟩) n n] 23) := ⟨_, rfl⟩
  obtain ⟨b, hb⟩ : ∃ b, b = W0.heap.size := ⟨_, rfl⟩
  obtain ⟨pb, hpb⟩ : ∃ pb, pb = w1.heap.size := ⟨_, rfl⟩
  rw [← hW2, ← hb, ← hpb] at HA
  rw [← hW2, ← hb, ← hpb]
  clear hW2 hb hpb hb2 hi1 hlt1 hb1 hown hgrow HRB HSZ HR HB hrl c0 HC W0
  go_loopw [11] (fun i wr => ∃ k : Nat, k ≤ n ∧ i = .int .i64 k ∧ ByAt w wr g n rb b pb K (fun t => if t < k then (t : Int) else 0)) (fun i _ => n - (intOf i).toNat)
  case atStart => exact ⟨0, Nat.zero_le _, rfl, by simpa using HA.out⟩
  case round =>
    obtain ⟨k, hk, rfl, hX⟩ := hrel
    have HX := Lib.hid hX
    clear hX HA
    have c1 := HX.out.box
    by_cases hlt : k < n
    · have c2 := (HX.out.ints k hlt).1
      have c3 := (HX.out.ints k hlt).2
      go_wp2_with fail
      go_roundw
      case rel =>
        refine ⟨k + 1, by omega, by go_num, ?_⟩
        have q := HX.out.put hlt (k : Int)
        refine ⟨q.bel, q.rests, ints_same q.ints fun t ht => ?_, q.box, q.r0, q.b0, q.p0, q.g0, q.rb', q.pb'⟩
        by_cases e : t = k
        · rw [if_pos e, if_pos (by omega), e]
        · rw [if_neg e]
          by_cases e2 : t < k
          · rw [if_pos e2, if_pos (by omega)]
          · rw [if_neg e2, if_neg (by omega)]
      case measure => simp [intOf]; omega
    · have hke : k = n := by omega
      subst hke
      have HG : Hid (g ≠ b) := by have := HX.out.g0; have := HX.out.b0; show g ≠ b; omega
      have HS : Hid (SW wr b k rb g K (fun t => (t : Int)) wr) :=
        ⟨But.refl _ _, ints_same HX.out.ints (fun t ht => by rw [if_pos ht]), HX.out.rests, HX.out.rb', HG.out, fun t ht => by omega, by omega⟩
      go_wp2_with fail
      refine (sort_any HS.out k hn).mono ?_
      rintro e w3 ⟨rfl, h, hS, hP, hM⟩
      have H3 := Lib.hid hS
      have HP := Lib.hid hP
      have HM := Lib.hid hM
      clear hS hP hM
      have bx : Below w.heap.size w w3 := HX.out.bel.trans (H3.out.but.below HX.out.b0)
      have c4 : w3.cell? ⟨pb, 0, none⟩ = some (.slice (some ⟨b, 0, none⟩) k k) := (H3.out.but.cell (p := ⟨pb, 0, none⟩) HX.out.pb').trans c1
      have HBX := Lib.hid bx
      have HC4 := Lib.hid c4
      clear bx c4 c1
      go_wp2_with fail
      go_ret
      have ba : Below w3.heap.size w3 (w3.alloc (.cells #[.int .i64 (-1)] 3)) := (Below.refl _ _).alloc (Nat.le_refl _) _
      have s3 := HBX.out.size
      have l1 : pb < w3.heap.size := World.block_lt_of_cell? (a := ⟨pb, 0, none⟩) _ HC4.out
      have l2 : b < w3.heap.size := World.block_lt_of_cell? (a := ⟨b, 0, none⟩) _ (H3.out.ints 0 h0).1
      refine ⟨w3.heap.size, pb, b, h, rfl, HBX.out.trans (ba.mono s3), s3, HX.out.p0, HX.out.b0, by omega, by omega, by simp [go_sem], by simp [go_sem], kcell ba HC4.out, fun t ht => ⟨kcell ba (H3.out.ints t ht).1, (ba.frozen (p := ⟨b, t, none⟩) l2).trans (H3.out.ints t ht).2⟩, HP.out, HM.out⟩
end Go.Proofs.Ytbcdfkcgcaifjaa
