/- Reverse, on. -/
import Derived.Test.YtginbgclifdfiaaAcW
namespace Go.Proofs.Ytginbgclifdfiaa
open Go.RowKit

section
variable {w w' : World} {p m : Nat} {S : Ld} {f : Int → Int → Int → Int} {ve : Value} {vs : List Value} {rows : List (Int × Int × Nat)} {O : Nat → Prop}
theorem revE_on {k : Nat} {q : Int} {x : En} (hx : S.L[k]? = some x) (ht : x.tu = false) : revE S k q = if leastB x.ps = true then 3 else postE S q (negP x.ps) := by
  unfold revE
  rw [if_neg (by omega), show ((k : Int)).toNat = k by omega, hx]
  simp [ht]
set_option maxRecDepth 100000 in
set_option maxHeartbeats 4000000 in
theorem reverse_least (k : Nat) (q : Int) (x : En) (h : Lg w p S O) (hx : S.L[k]? = some x) (ht : x.tu = false) (hl : leastB x.ps = true) :
    Calls Try.prog 27 #[.pointer (some ⟨p, 0, none⟩), .int .i64 (k : Int), .int .i64 q] w (RevR w p S O k q) := by
  have hk := (List.getElem?_eq_some_iff.1 hx).1
  have hE : revE S k q = 3 := by rw [revE_on hx ht, if_pos hl]
  obtain ⟨e1, e2⟩ := rev_not hE (by omega)
  have HL := Lib.hid h
  have hok := h.fine.ok x (List.mem_of_getElem? hx)
  have hwell := well_iff.1 hok.well
  obtain ⟨m, ve, vs, rows, h, _⟩ := h
  obtain ⟨g, c, v, rfl, k1, k2, k3, kf, hv, hh, _⟩ := h.at hx
  obtain ⟨av, cv, rfl, hpa, _, hnone⟩ := own_psa hv
  obtain ⟨ad, rfl⟩ : ∃ ad, av = some ad := by
    cases av with
    | none => have := (hnone rfl).1; omega
    | some ad => exact ⟨ad, rfl⟩
  have c2 := h.lc.2.2.1
  have HHas := Lib.hid (hasEntry_cells (w := w) (p := p) (S := S) (k : Int) c2)
  rw [show entB S (k : Int) = true by unfold entB; simp; exact hk] at HHas
  have HOpp := Lib.hid (opposite_any ad x.ps.length cv x.ps hpa rfl (by omega) (by omega) (ent_am hok))
  have HLl := Lib.hid hl
  rw [ht] at k3
  have i1 : (0 : Int) ≤ (k : Int) := by omega
  have i2 : (k : Int) < (S.L.length : Int) := by omega
  have i3 : ((k : Int)).toNat = k := by omega
  unfold RevR
  rw [hE, e1, e2]
  clear h hx hE e1 e2 hh kf ht k1 hl hok hwell hv hpa hnone
  go_enter Try.func27, Try.ntmps27
  go_wp2_with fail
  refine HHas.out.mono ?_
  rintro e w1 ⟨rfl, rfl⟩
  go_wp2_with fail
  refine HOpp.out.mono ?_
  rintro e w2 ⟨hr, hb⟩
  have HB := Lib.hid hb
  obtain rfl : e = .returned (.tuple #[.slice none 0 0, .int .i64 3]) := by
    rcases hr with ⟨_, h⟩ | ⟨h, _⟩
    · exact h
    · rw [HLl.out] at h; cases h
  clear hr hb
  go_wp2_with fail
  go_ret2
  exact ⟨rfl, LgR.same HL.out HB.out⟩
/-- Post of the opposite, in Reverse -/
def PstR (w w2 : World) (p : Nat) (S : Ld) (O : Nat → Prop) (q : Int) (ps : List Po) (e : Ending) (w3 : World) : Prop :=
  e = .returned (.tuple #[.int .i64 (postN S q ps), .int .i64 (postE S q ps)]) ∧ LgR w2 p O (postS S q ps) w3 ∧ Below w.heap.size w w2
theorem LgR.pre {w2 w3 : World} {S' : Ld} (h0 : Lg w p S O) (hb : Below w.heap.size w w2) (h : LgR w2 p O S' w3) : LgR w p O S' w3 := by
  obtain ⟨⟨m, ve, vs, rows, h1, h2, _⟩, h3⟩ := h
  refine LgR.of h0 h1 (h2.mono fun b hb' => ?_) ((Kp.of (O := O) hb).trans h3 fun b h => .inl h)
  rcases hb' with h | h
  · exact .inl h
  · exact .inr (Nat.le_trans hb.size h.1)
set_option maxRecDepth 100000 in
set_option maxHeartbeats 4000000 in
theorem reverse_no (k : Nat) (q : Int) (x : En) (h : Lg w p S O) (hx : S.L[k]? = some x) (ht : x.tu = false) (hl : leastB x.ps = false) (hp : postE S q (negP x.ps) ≠ 0) :
    Calls Try.prog 27 #[.pointer (some ⟨p, 0, none⟩), .int .i64 (k : Int), .int .i64 q] w (RevR w p S O k q) := by
  have hk := (List.getElem?_eq_some_iff.1 hx).1
  have hE : revE S k q = postE S q (negP x.ps) := by rw [revE_on hx ht, if_neg (by rw [hl]; simp)]
  obtain ⟨e1, e2⟩ := rev_not hE hp
  have HL := Lib.hid h
  have hbd := h.bd
  have hok := h.fine.ok x (List.mem_of_getElem? hx)
  have hwell := well_iff.1 hok.well
  obtain ⟨m, ve, vs, rows, h, _⟩ := h
  obtain ⟨g, c, v, rfl, k1, k2, k3, kf, hv, hh, _⟩ := h.at hx
  obtain ⟨av, cv, rfl, hpa, _, hnone⟩ := own_psa hv
  obtain ⟨ad, rfl⟩ : ∃ ad, av = some ad := by
    cases av with
    | none => have := (hnone rfl).1; omega
    | some ad => exact ⟨ad, rfl⟩
  have c2 := h.lc.2.2.1
  have HHas := Lib.hid (hasEntry_cells (w := w) (p := p) (S := S) (k : Int) c2)
  rw [show entB S (k : Int) = true by unfold entB; simp; exact hk] at HHas
  have HOpp := Lib.hid (opposite_any ad x.ps.length cv x.ps hpa rfl (by omega) (by omega) (ent_am hok))
  have HNeg := Lib.hid (neg_ams hok hl)
  have HBd := Lib.hid hbd
  have HLl := Lib.hid hl
  have hz : (postE S q (negP x.ps) != 0) = true := by simpa using hp
  have hps : postS S q (negP x.ps) = S := by unfold postS; rw [if_neg hp]
  have HPs := Lib.hid hps
  rw [ht] at k3
  have i1 : (0 : Int) ≤ (k : Int) := by omega
  have i2 : (k : Int) < (S.L.length : Int) := by omega
  have i3 : ((k : Int)).toNat = k := by omega
  unfold RevR
  rw [hE, e1, e2]
  clear h hx hE e1 e2 hh kf ht k1 hl hok hwell hv hpa hnone hbd hp hps
  go_enter Try.func27, Try.ntmps27
  go_wp2_with fail
  refine HHas.out.mono ?_
  rintro e w1 ⟨rfl, rfl⟩
  go_wp2_with fail
  refine HOpp.out.mono ?_
  rintro e w2 ⟨hr, hb⟩
  obtain ⟨v2, rfl, hv2⟩ : ∃ v, e = .returned (.tuple #[v, .int .i64 0]) ∧ w2.ownsRow w.heap.size 48 3 v x.ps.length (flat (negP x.ps)) := by
    rcases hr with ⟨h, _⟩ | ⟨_, h⟩
    · rw [HLl.out] at h; cases h
    · exact h
  obtain ⟨a2, q2, rfl, hpa2, hl2, _⟩ := own_psa hv2
  have HPost := Lib.hid (post_any q a2 x.ps.length q2 (negP x.ps) (HL.out.up hb) hpa2 hl2 HNeg.out (fun _ ad2 e hO => by
    have h1 := HBd.out _ hO
    have h2 := (World.ownsRow.lt hv2 ad2.block (by rw [e]; rfl)).1
    omega))
  have HB := Lib.hid hb
  clear hr hb hv2 hpa2 hl2
  go_wp2_with fail
  refine HPost.out.mono ?_
  rintro e w3 ⟨rfl, h3⟩
  rw [HPs.out] at h3
  have H3 := Lib.hid h3
  clear h3
  go_wp2_with fail
  go_ret2
  exact ⟨rfl, LgR.pre HL.out HB.out H3.out⟩
set_option maxRecDepth 100000 in
set_option maxHeartbeats 8000000 in
theorem reverse_ok (k : Nat) (q : Int) (x : En) (h : Lg w p S O) (hx : S.L[k]? = some x) (ht : x.tu = false) (hl : leastB x.ps = false) (hp : postE S q (negP x.ps) = 0) :
    Calls Try.prog 27 #[.pointer (some ⟨p, 0, none⟩), .int .i64 (k : Int), .int .i64 q] w (RevR w p S O k q) := by
  have hk := (List.getElem?_eq_some_iff.1 hx).1
  have hE : revE S k q = 0 := by rw [revE_on hx ht, if_neg (by rw [hl]; simp)]; exact hp
  have e1 : revN S k q = S.L.length := by unfold revN; rw [if_pos hE]
  have e2 : revS S k q = turned (posted S q (negP x.ps)) k S.L.length := by unfold revS; rw [if_pos hE, show ((k : Int)).toNat = k by omega, hx]
  have HL := Lib.hid h
  have hbd := h.bd
  have hok := h.fine.ok x (List.mem_of_getElem? hx)
  have hwell := well_iff.1 hok.well
  have hfew := h.fine.few
  obtain ⟨m, ve, vs, rows, h, _⟩ := h
  obtain ⟨g, c, v, rfl, k1, k2, k3, kf, hv, hh, _⟩ := h.at hx
  obtain ⟨av, cv, rfl, hpa, _, hnone⟩ := own_psa hv
  obtain ⟨ad, rfl⟩ : ∃ ad, av = some ad := by
    cases av with
    | none => have := (hnone rfl).1; omega
    | some ad => exact ⟨ad, rfl⟩
  have c2 := h.lc.2.2.1
  have HHas := Lib.hid (hasEntry_cells (w := w) (p := p) (S := S) (k : Int) c2)
  rw [show entB S (k : Int) = true by unfold entB; simp; exact hk] at HHas
  have HOpp := Lib.hid (opposite_any ad x.ps.length cv x.ps hpa rfl (by omega) (by omega) (ent_am hok))
  have HNeg := Lib.hid (neg_ams hok hl)
  have HBd := Lib.hid hbd
  have HLl := Lib.hid hl
  have hps : postS S q (negP x.ps) = posted S q (negP x.ps) := by unfold postS; rw [if_pos hp]
  have hpn : postN S q (negP x.ps) = S.L.length := by unfold postN; rw [if_pos hp]
  have HPs := Lib.hid hps
  have HPn := Lib.hid hpn
  have HPe := Lib.hid hp
  have HX := Lib.hid hx
  rw [ht] at k3
  have i1 : (0 : Int) ≤ (k : Int) := by omega
  have i2 : (k : Int) < (S.L.length : Int) := by omega
  have i3 : ((k : Int)).toNat = k := by omega
  unfold RevR
  rw [hE, e1, e2]
  clear h hx hE e1 e2 hh kf ht k1 hl hok hwell hv hpa hnone hbd hp hps hpn
  go_enter Try.func27, Try.ntmps27
  go_wp2_with fail
  refine HHas.out.mono ?_
  rintro e w1 ⟨rfl, rfl⟩
  go_wp2_with fail
  refine HOpp.out.mono ?_
  rintro e w2 ⟨hr, hb⟩
  obtain ⟨v2, rfl, hv2⟩ : ∃ v, e = .returned (.tuple #[v, .int .i64 0]) ∧ w2.ownsRow w.heap.size 48 3 v x.ps.length (flat (negP x.ps)) := by
    rcases hr with ⟨h, _⟩ | ⟨_, h⟩
    · rw [HLl.out] at h; cases h
    · exact h
  obtain ⟨a2, q2, rfl, hpa2, hl2, _⟩ := own_psa hv2
  have HPost := Lib.hid (post_any q a2 x.ps.length q2 (negP x.ps) (HL.out.up hb) hpa2 hl2 HNeg.out (fun _ ad2 e hO => by
    have h1 := HBd.out _ hO
    have h2 := (World.ownsRow.lt hv2 ad2.block (by rw [e]; rfl)).1
    omega))
  have HB := Lib.hid hb
  clear hr hb hv2 hpa2 hl2 k2 k3 c2
  go_wp2_with fail
  refine HPost.out.mono ?_
  rintro e w3 ⟨rfl, h3⟩
  rw [HPs.out] at h3
  rw [HPn.out, HPe.out]
  have H3 := LgR.pre HL.out HB.out h3
  obtain ⟨⟨m2, ve2, vs2, rows2, hl3, hin3, hbd3⟩, hkp3⟩ := H3
  have hlen : (posted S q (negP x.ps)).L.length = S.L.length + 1 := by show (S.L ++ [_]).length = _; simp
  have hx3 : (posted S q (negP x.ps)).L[k]? = some x := by
    show (S.L ++ [_])[k]? = _
    rw [List.getElem?_append_left hk]; exact HX.out
  have hy3 : (posted S q (negP x.ps)).L[S.L.length]? = some ⟨q, negP x.ps, false⟩ := by
    show (S.L ++ [_])[S.L.length]? = _
    simp
  obtain ⟨g3, c3, v3, rfl, _, _, m3, mf, _, hh3, hpg⟩ := hl3.at hx3
  obtain ⟨g4, c4, v4, e4, _, _, m4, _, _, _, _⟩ := hl3.at hy3
  obtain rfl : g3 = g4 := by
    injection e4 with e4
    injection e4 with e4
    injection e4
  rw [hlen] at hl3 hh3 hin3
  have hb3 := (hl3.turn k (by rw [hlen]; omega)).turn S.L.length (by show S.L.length < (List.modify _ _ _).length; rw [List.length_modify]; omega)
  rw [← turned_two] at hb3
  have p2 : w3.cell? ⟨p, 2, none⟩ = some (.slice (some ⟨g3, 0, none⟩) (S.L.length + 1) c3) := hh3.cell 2
  have hcell2 := hb3.head.cell 2
  have hend : LgR w p O (turned (posted S q (negP x.ps)) k S.L.length) ((w3.setCell ⟨g3, k * 3 + 2, none⟩ (.bool true)).setCell ⟨g3, S.L.length * 3 + 2, none⟩ (.bool true)).drew := by
    have hg3 : g3 < w3.heap.size := World.block_lt_of_cell? (a := ⟨g3, k * 3 + 2, none⟩) _ m3
    have hOg : O g3 ∨ w.heap.size ≤ g3 := (hin3.ve g3 rfl).imp id fun h => h.1
    have hb3' := hb3.up ((Below.refl _ _).drew)
    have hf : (fun a c q' => rng a c q' q' (posted S q (negP x.ps)).L) = fun a c q' => rng a c q' q' (turned (posted S q (negP x.ps)) k S.L.length).L := by
      funext a c q'; rw [rng_turned]
    rw [hf] at hb3'
    refine LgR.of HL.out hb3' (hin3.mono fun b hb => hb.imp id fun h => h.1) ?_
    refine ((hkp3.trans (Kp.set (O := fun b => b = g3) _ _ _ rfl) ?_).trans (Kp.set (O := fun b => b = g3) _ _ _ rfl) ?_).trans (O' := fun _ => False) (Kp.of ((Below.refl _ _).drew)) (fun b hb => hb.elim)
    · rintro b rfl; exact hOg
    · rintro b rfl; exact hOg
  have HE := Lib.hid hend
  have f1 : w3.frozen? ⟨g3, k * 3 + 2, none⟩ = false := mf _
  have f2 : w3.frozen? ⟨g3, S.L.length * 3 + 2, none⟩ = false := mf _
  have z1 : (w3.setCell ⟨g3, k * 3 + 2, none⟩ (.bool true)).cell? ⟨p, 2, none⟩ = some (.slice (some ⟨g3, 0, none⟩) (S.L.length + 1) c3) := cset p2 (.inl hpg)
  have z2 : ((w3.setCell ⟨g3, k * 3 + 2, none⟩ (.bool true)).setCell ⟨g3, S.L.length * 3 + 2, none⟩ (.bool true)).cell? ⟨p, 2, none⟩ = some (.slice (some ⟨g3, 0, none⟩) (S.L.length + 1) c3) := cset z1 (.inl hpg)
  have hne : g3 ≠ g3 ∨ S.L.length * 3 + 2 ≠ k * 3 + 2 := .inr (by omega)
  have m5 := cset (v := .bool false) (x := .bool true) (b := g3) (o := k * 3 + 2) m4 hne
  have f5 := fset (x := .bool true) (b := g3) (o := k * 3 + 2) f2
  have j1 : (0 : Int) ≤ (S.L.length : Int) := by omega
  have j2 : (k : Int) < ((S.L.length : Nat) : Int) + 1 := by omega
  have j3 : (S.L.length : Int) < ((S.L.length : Nat) : Int) + 1 := by omega
  have j4 : ((S.L.length : Int)).toNat = S.L.length := by omega
  clear h3 hl3 hin3 hbd3 hkp3 hlen hx3 hy3 mf hh3 e4 hb3 hcell2 hend hne
  go_wp2_with fail
  go_region_held3 (fun w' => w'.cell? ⟨p, 2, none⟩ = some (.slice (some ⟨g3, 0, none⟩) (S.L.length + 1) c3))
    (first | (go_keep; done) | exact z1 | exact z2)
    (first | fail)
  all_goals
    clear p2 z1 z2 m3 m4 m5 f1 f2 f5
    go_wp2_with fail
    go_ret2
    exact ⟨rfl, HE.out⟩
theorem reverse_any (i q : Int) (h : Lg w p S O) : Calls Try.prog 27 #[.pointer (some ⟨p, 0, none⟩), .int .i64 i, .int .i64 q] w (RevR w p S O i q) := by
  cases hi : entB S i
  · exact reverse_none i q h hi
  · have h2 : 0 ≤ i ∧ i < S.L.length := by unfold entB at hi; simp at hi; exact hi
    obtain ⟨k, rfl⟩ : ∃ k : Nat, i = k := ⟨i.toNat, by omega⟩
    have hx : S.L[k]? = some (S.L[k]'(by omega)) := List.getElem?_eq_getElem _
    generalize S.L[k]'(by omega) = x at hx
    cases ht : x.tu
    · cases hl : leastB x.ps
      · by_cases hp : postE S q (negP x.ps) = 0
        · exact reverse_ok k q x h hx ht hl hp
        · exact reverse_no k q x h hx ht hl hp
      · exact reverse_least k q x h hx ht hl
    · exact reverse_twice k q x h hx ht
end
end Go.Proofs.Ytginbgclifdfiaa
