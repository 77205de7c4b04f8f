/- The reference's ledger in memory; its sum. -/
import Derived.Test.YtginbgclifdfiaaAcZ
import Derived.Test.YtginbgclifdfiaaZ
namespace Go.Proofs.Ytginbgclifdfiaa
open Go.RowKit

structure Rlw (w : World) (r : Nat) (S : Ld) (ve : Value) (vs : List Value) : Prop where
  head : Has w r 43 #[.int .i64 (S.n : Int), .int .i64 (S.op : Int), ve]
  ents : w.ownsRow 0 52 3 ve S.L.length (entC S.L vs)
  lens : vs.length = S.L.length
  each : ∀ (i : Nat) (e : En) (v : Value), S.L[i]? = some e → vs[i]? = some v → w.ownsRow 0 48 3 v e.ps.length (flat e.ps)
structure Inr (O : Nat → Prop) (r : Nat) (ve : Value) (vs : List Value) : Prop where
  r : O r
  ve : ∀ g, ve.ownBlock = some g → O g
  vs : ∀ v ∈ vs, ∀ g, v.ownBlock = some g → O g
/-- entries that are few, of few postings, of amounts -/
def RlOk (L : List En) : Prop := L.length ≤ 5000 ∧ ∀ e ∈ L, e.ps.length ≤ 32 ∧ ∀ x ∈ e.ps, Am x.m
section
variable {w w' : World} {r : Nat} {S : Ld} {ve : Value} {vs : List Value} {O : Nat → Prop}
theorem Rlw.keep (h : Rlw w r S ve vs) (hi : Inr O r ve vs) (hk : ∀ b, b < w.heap.size → O b → w'.heap[b]? = w.heap[b]?) : Rlw w' r S ve vs := by
  refine ⟨(hk r h.head.lt hi.r).trans h.head, own_keep h.ents fun g hg => hk g (own_ltb h.ents hg) (hi.ve g hg), h.lens, fun i e v he hv => ?_⟩
  have := h.each i e v he hv
  exact own_keep this fun g hg => hk g (own_ltb this hg) (hi.vs v (List.mem_of_getElem? hv) g hg)
theorem Rlw.up (h : Rlw w r S ve vs) (q : Below w.heap.size w w') : Rlw w' r S ve vs :=
  h.keep (O := fun _ => True) ⟨trivial, fun _ _ => trivial, fun _ _ _ _ => trivial⟩ fun b hb _ => q.block b hb
theorem Rlw.at (h : Rlw w r S ve vs) {i : Nat} {e : En} (he : S.L[i]? = some e) :
    ∃ g c a k, ve = .slice (some ⟨g, 0, none⟩) S.L.length c ∧ w.cell? ⟨g, i * 3, none⟩ = some (.int .i64 e.per) ∧ w.cell? ⟨g, i * 3 + 1, none⟩ = some (.slice a e.ps.length k) ∧ w.cell? ⟨g, i * 3 + 2, none⟩ = some (.bool e.tu) ∧
      (∀ j, w.frozen? ⟨g, j, none⟩ = false) ∧ PsA w a e.ps ∧ r ≠ g := by
  have hi := (List.getElem?_eq_some_iff.1 he).1
  obtain ⟨v, hv⟩ : ∃ v, vs[i]? = some v := ⟨vs[i]'(by rw [h.lens]; exact hi), List.getElem?_eq_getElem _⟩
  obtain ⟨e1, e2, e3⟩ := entC_get S.L vs i e v he hv
  obtain ⟨a, k, rfl, hp, _⟩ := own_psa (h.each i e v he hv)
  rcases h.ents.2 with ⟨_, e0⟩ | ⟨g, c, cur, rfl, _, hh, _⟩
  · omega
  · have k1 := World.ownsRow.cellAt (w := w) h.ents (i * 3) (by omega)
    have k2 := World.ownsRow.cellAt (w := w) h.ents (i * 3 + 1) (by omega)
    have k3 := World.ownsRow.cellAt (w := w) h.ents (i * 3 + 2) (by omega)
    rw [e1] at k1; rw [e2] at k2; rw [e3] at k3
    have hh' : Has w g 52 cur := hh
    exact ⟨g, c, a, k, rfl, k1, k2, k3, fun j => hh'.free j, hp, h.head.ne hh' (by decide)⟩
/-- its three cells -/
def Rc (w : World) (r : Nat) (S : Ld) (a : Option Addr) (c : Nat) : Prop :=
  w.cell? ⟨r, 0, none⟩ = some (.int .i64 (S.n : Int)) ∧ w.cell? ⟨r, 1, none⟩ = some (.int .i64 (S.op : Int)) ∧ w.cell? ⟨r, 2, none⟩ = some (.slice a S.L.length c)
theorem Rlw.rc (h : Rlw w r S ve vs) : ∃ a c, Rc w r S a c ∧ ve = .slice a S.L.length c := by
  obtain ⟨a, c, rfl⟩ := own_form9 h.ents
  exact ⟨a, c, ⟨h.head.cell 0, h.head.cell 1, h.head.cell 2⟩, rfl⟩
theorem Rc.up {a : Option Addr} {c : Nat} (h : Rc w r S a c) (q : Below w.heap.size w w') : Rc w' r S a c := ⟨kcell q h.1, kcell q h.2.1, kcell q h.2.2⟩

/-! bounds -/
theorem sumP_bd (a c : Int) : ∀ ps : List Po, (∀ x ∈ ps, Am x.m) → -(9223372036854775808 * (ps.length : Int)) ≤ sumP a c ps ∧ sumP a c ps ≤ 9223372036854775808 * (ps.length : Int)
  | [], _ => by simp [sumP]
  | x :: l, h => by
    have i := sumP_bd a c l fun y hy => h y (by simp [hy])
    have k := h x (by simp)
    unfold Am at k
    simp only [sumP, List.length_cons]
    split <;> omega
theorem rng_bd (a c lo hi : Int) : ∀ L : List En, (∀ e ∈ L, e.ps.length ≤ 32 ∧ ∀ x ∈ e.ps, Am x.m) → -(295147905179352825856 * (L.length : Int)) ≤ rng a c lo hi L ∧ rng a c lo hi L ≤ 295147905179352825856 * (L.length : Int)
  | [], _ => by simp [rng]
  | e :: l, h => by
    have i := rng_bd a c lo hi l fun y hy => h y (by simp [hy])
    have k := h e (by simp)
    have s := sumP_bd a c e.ps k.2
    simp only [rng, List.length_cons]
    split <;> omega
theorem small_of {n : Int} (h0 : -100000000000000000000000000 ≤ n) (h1 : n ≤ 100000000000000000000000000) : Small n := by
  unfold Small
  have h3 : (1000 : Int) ^ 9 * 1 ≤ 1000 ^ (9 + 191) := by
    rw [Int.pow_add]; exact Int.mul_le_mul_of_nonneg_left (by have := pow_pos' 191; omega) (by decide)
  have h4 : (1000 : Int) ^ 9 = 1000000000000000000000000000 := by decide
  have h5 : (1000 : Int) ^ (9 + 191) = 1000 ^ 200 := rfl
  rw [h4, h5] at h3
  generalize (1000 : Int) ^ 200 = P at *
  omega
theorem rng_small {L : List En} (h : RlOk L) (a c lo hi : Int) : Small (rng a c lo hi L) := by
  have := rng_bd a c lo hi L h.2
  have := h.1
  exact small_of (by omega) (by omega)
theorem take_small {L : List En} (h : RlOk L) (a c lo hi : Int) (k : Nat) {e : En} (he : e ∈ L) (j : Nat) : Small (rng a c lo hi (L.take k) + sumP a c (e.ps.take j)) := by
  have h1 := rng_bd a c lo hi (L.take k) fun e he => h.2 e (List.mem_of_mem_take he)
  have h2 := sumP_bd a c (e.ps.take j) fun x hx => (h.2 e he).2 x (List.mem_of_mem_take hx)
  have h3 := h.1
  have h4 := (h.2 e he).1
  rw [List.length_take] at h1 h2
  exact small_of (by omega) (by omega)
theorem sumP_take (a c : Int) {ps : List Po} {j : Nat} {x : Po} (h : ps[j]? = some x) : sumP a c (ps.take (j + 1)) = sumP a c (ps.take j) + if x.a = a ∧ x.c = c then x.m else 0 := by
  rw [List.take_add_one, h, sumP_append]; simp [sumP]
theorem rng_take (a c lo hi : Int) {L : List En} {k : Nat} {e : En} (h : L[k]? = some e) : rng a c lo hi (L.take (k + 1)) = rng a c lo hi (L.take k) + if lo ≤ e.per ∧ e.per ≤ hi then sumP a c e.ps else 0 := by
  rw [List.take_add_one, h, rng_append]; simp [rng]

set_option maxRecDepth 100000 in
set_option maxHeartbeats 8000000 in
theorem gsum_any (ac co lo hi : Int) (h : Rlw w r S ve vs) (hL : RlOk S.L) :
    Calls Try.prog 31 #[.pointer (some ⟨r, 0, none⟩), .int .i64 ac, .int .i64 co, .int .i64 lo, .int .i64 hi] w (ExPost w (rng ac co lo hi S.L)) := by
  have H := Lib.hid h
  have HL := Lib.hid hL
  have hln := hL.1
  have HT := Lib.hid (tat_start w)
  obtain ⟨ea, ec, hrc0, hve⟩ := h.rc
  have HRc := Lib.hid hrc0
  have HVe := Lib.hid hve
  clear h hL hrc0 hve
  go_enter Try.func31, Try.ntmps31
  go_wp2_with fail
  obtain ⟨W0, hW0⟩ : ∃ W0, W0 = ((w.alloc (.cells #[.int .i64 0, .slice none 0 0] 68)).alloc (.cells #[.int .i64 0, .slice none 0 0] 68)) := ⟨_, rfl⟩
  rw [← hW0] at HT
  rw [← hW0]
  clear hW0
  go_loopw [12] (fun i wr => ∃ k : Nat, k ≤ S.L.length ∧ i = .int .i64 k ∧ ∃ s a l2 c2, TAt w (rng ac co lo hi (S.L.take k)) s a l2 c2 wr) (fun i _ => S.L.length - (intOf i).toNat)
  case atStart => exact ⟨0, Nat.zero_le _, rfl, _, _, _, _, HT.out⟩
  case round =>
    obtain ⟨k, hk, rfl, s, a, l2, c2, hT⟩ := hrel
    have HS := Lib.hid hT
    have hb0 : Below w.heap.size w wr := hT.1
    have r2 := kcell hb0 HRc.out.2.2
    by_cases hlt : k < S.L.length
    · obtain ⟨e, he⟩ : ∃ e, S.L[k]? = some e := ⟨_, List.getElem?_eq_getElem hlt⟩
      have HE := Lib.hid he
      have hok := HL.out.2 e (List.mem_of_getElem? he)
      have HOk := Lib.hid hok
      obtain ⟨g, c, pa, pk, hve', q0, q1, q2, _, hpa, _⟩ := H.out.at he
      obtain ⟨rfl, rfl⟩ : ea = some ⟨g, 0, none⟩ ∧ ec = c := by
        have := HVe.out
        rw [hve'] at this
        injection this with h1 _ h3
        exact ⟨h1.symm, h3.symm⟩
      have p0 := kcell hb0 q0
      have p1 := kcell hb0 q1
      have p2 := kcell hb0 q2
      obtain ⟨W1, hW1⟩ : ∃ W1, W1 = wr.alloc (.cells #[.int .i64 e.per, .slice pa e.ps.length pk, .bool e.tu] 52) := ⟨_, rfl⟩
      have hb1 : Below wr.heap.size wr W1 := by rw [hW1]; exact boxed _ _
      have hX : Has W1 wr.heap.size 52 #[.int .i64 e.per, .slice pa e.ps.length pk, .bool e.tu] := by rw [hW1]; exact Has.fresh _ _ _
      have HT1 := Lib.hid (hT.up hb1)
      have x0 : W1.cell? ⟨wr.heap.size, 0, none⟩ = some (.int .i64 e.per) := hX.cell 0
      have HX := Lib.hid hX
      have HW1 := Lib.hid hW1
      have HPa := Lib.hid hpa
      have HN : Hid (w.heap.size + 2 ≤ wr.heap.size) := hT.2.1
      have hk0 : (0 : Int) ≤ (k : Int) := by omega
      have hk1 : (k : Int) < (S.L.length : Int) := by omega
      clear hT hb0 hok hve' q0 q1 q2 hpa hb1 hX hW1 he
      by_cases h1 : e.per < lo
      · go_wp2_with fail
        rw [← HW1.out]
        go_wp2_with fail
        refine ⟨⟨k + 1, by omega, by go_num, s, a, l2, c2, ?_⟩, by simp [intOf]; omega⟩
        rw [rng_take _ _ _ _ HE.out, if_neg (by omega), Int.add_zero]; exact HT1.out
      · by_cases h2 : hi < e.per
        · go_wp2_with fail
          rw [← HW1.out]
          go_wp2_with fail
          refine ⟨⟨k + 1, by omega, by go_num, s, a, l2, c2, ?_⟩, by simp [intOf]; omega⟩
          rw [rng_take _ _ _ _ HE.out, if_neg (by omega), Int.add_zero]; exact HT1.out
        · have HIn : Hid (lo ≤ e.per ∧ e.per ≤ hi) := ⟨by omega, by omega⟩
          go_wp2_with fail
          rw [← HW1.out]
          go_wp2_with fail
          clear x0 p0 p1 p2 r2
          obtain ⟨wo, hwo⟩ : ∃ wo : World, wo = wr := ⟨_, rfl⟩
          rw [← hwo] at HX HN
          rw [← hwo]
          clear hwo HW1 HS
          go_loopw [14] (fun i wr => ∃ j : Nat, j ≤ e.ps.length ∧ i = .int .i64 j ∧ ∃ s a l2 c2, TAt w (rng ac co lo hi (S.L.take k) + sumP ac co (e.ps.take j)) s a l2 c2 wr ∧ Has wr wo.heap.size 52 #[.int .i64 e.per, .slice pa e.ps.length pk, .bool e.tu]) (fun i _ => e.ps.length - (intOf i).toNat)
          case atStart => exact ⟨0, Nat.zero_le _, rfl, s, a, l2, c2, by simpa [sumP] using HT1.out, HX.out⟩
          case round =>
            obtain ⟨j, hj, rfl, s3, a3, l3, c3, hT, hX⟩ := hrel
            have HS := Lib.hid hT
            have HX := Lib.hid hX
            have hb0 : Below w.heap.size w wr := hT.1
            have y1 : wr.cell? ⟨wo.heap.size, 1, none⟩ = some (.slice pa e.ps.length pk) := hX.cell 1
            have hj32 := HOk.out.1
            by_cases hjl : j < e.ps.length
            · obtain ⟨x, hx⟩ : ∃ x, e.ps[j]? = some x := ⟨_, List.getElem?_eq_getElem hjl⟩
              have HXx := Lib.hid hx
              obtain ⟨f1, f2⟩ : Am x.m := HOk.out.2 x (List.mem_of_getElem? hx)
              obtain ⟨b, o, rfl, z0, z1, z2⟩ : ∃ b o, pa = some ⟨b, o, none⟩ ∧ wr.cell? ⟨b, o + j * 3, none⟩ = some (.int .i64 x.a) ∧ wr.cell? ⟨b, o + j * 3 + 1, none⟩ = some (.int .i64 x.c) ∧ wr.cell? ⟨b, o + j * 3 + 2, none⟩ = some (.int .i64 x.m) := by
                rcases HPa.out.up hb0 with h | ⟨b, o, rfl, h⟩
                · rw [h] at hx; simp at hx
                · exact ⟨b, o, rfl, h j x hx⟩
              have hk0 : (0 : Int) ≤ (j : Int) := by omega
              have hk1 : (j : Int) < (e.ps.length : Int) := by omega
              have HSm := Lib.hid (take_small HL.out ac co lo hi k (List.mem_of_getElem? HE.out) j)
              clear hT hX hb0 hx
              cases e1 : (x.a == ac)
              · have HNo : Hid (¬ (x.a = ac ∧ x.c = co)) := by intro q; rw [q.1] at e1; simp at e1
                go_wp2_with fail
                go_roundw
                case rel => exact ⟨j + 1, by omega, by go_num, s3, a3, l3, c3, by rw [sumP_take _ _ HXx.out, if_neg HNo.out, Int.add_zero]; exact HS.out, HX.out⟩
                case measure => simp [intOf]; omega
              · cases e2 : (x.c == co)
                · have HNo : Hid (¬ (x.a = ac ∧ x.c = co)) := by intro q; rw [q.2] at e2; simp at e2
                  go_wp2_with fail
                  go_roundw
                  case rel => exact ⟨j + 1, by omega, by go_num, s3, a3, l3, c3, by rw [sumP_take _ _ HXx.out, if_neg HNo.out, Int.add_zero]; exact HS.out, HX.out⟩
                  case measure => simp [intOf]; omega
                · have HYes : Hid (x.a = ac ∧ x.c = co) := ⟨by simpa using e1, by simpa using e2⟩
                  obtain ⟨c0, c1, k2, k3⟩ := HS.out.2.2.2.1
                  go_wp2_with fail
                  go_region_with (first | (go_at_call 33; ((with_reducible refine (of_any x.m _ f1 f2).mono ?_); rintro e' w1 ⟨s1, a1, n1, p1, rfl, hE1, hb1⟩; have kT1 := Lib.hid (HS.out.drew.up hb1); have kX1 := Lib.hid ((HX.out.up (Below.refl _ _).drew).up hb1); have kE1 := Lib.hid hE1; clear hE1 hb1; obtain ⟨u0, u1, v0, v1⟩ := kT1.out.2.2.2.1)) | (go_at_call 36; ((with_reducible refine (plus_ex s3 s1 (rng ac co lo hi (S.L.take k) + sumP ac co (e.ps.take j)) x.m a3 a1 l3 n1 c3 p1 _ kT1.out.ex kE1.out HSm.out (small64 f1 f2)).mono ?_); rintro e' w2 ⟨s2, a2, n2, p2, rfl, hE2, hb2⟩; have kT2 := Lib.hid (kT1.out.up hb2); have kX2 := Lib.hid (kX1.out.up hb2); have kE2 := Lib.hid hE2; clear hE2 hb2; obtain ⟨u2, u3, v2, v3⟩ := kT2.out.2.2.2.1)))
                  all_goals
                    go_wp2_with fail
                    go_roundw
                    case rel =>
                      refine ⟨j + 1, by omega, by go_num, s2, a2, n2, p2, ?_, (kX2.out.off (by show wo.heap.size ≠ w.heap.size + 1; have := HN.out; omega) _).off (by show wo.heap.size ≠ w.heap.size + 1; have := HN.out; omega) _⟩
                      have := kT2.out.put kE2.out
                      rw [sumP_take _ _ HXx.out, if_pos HYes.out, ← Int.add_assoc]; exact this
                    case measure => simp [intOf]; omega
            · have hje : j = e.ps.length := by omega
              subst hje
              clear hX
              go_wp2_with fail
              refine ⟨⟨k + 1, by omega, by go_num, s3, a3, l3, c3, ?_⟩, by simp [intOf]; omega⟩
              rw [rng_take _ _ _ _ HE.out, if_pos HIn.out]
              have := HS.out
              rw [List.take_length] at this
              exact this
    · obtain ⟨c0, c1, e0, e1⟩ := HS.out.2.2.2.1
      obtain ⟨d0, d1, g0, g1⟩ := HS.out.2.2.1.1
      have hke : k = S.L.length := by omega
      subst hke
      clear hT
      rw [List.take_length] at HS
      go_wp2_with fail
      exact bodyPost_ret (v := .agg #[.int .i64 s, .slice a l2 c2]) (by simp [results, Try.results31, go_sem, d0, d1]) rfl
        ⟨s, a, l2, c2, rfl, ex_store HS.out.2.2.1 HS.out.2.2.2.2.2 _ _, (HS.out.1.setCell (Nat.le_refl _) _).setCell (Nat.le_refl _) _⟩
end
end Go.Proofs.Ytginbgclifdfiaa
