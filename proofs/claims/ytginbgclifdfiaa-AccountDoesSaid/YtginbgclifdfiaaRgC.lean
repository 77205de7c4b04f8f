/- The reference: New, Close, Moved, Balance, Total. -/
import Derived.Test.YtginbgclifdfiaaRgB
namespace Go.Proofs.Ytginbgclifdfiaa
open Go.RowKit

/-- the reference's ledger; its blocks are of this set -/
def Rl (w : World) (r : Nat) (S : Ld) (O : Nat → Prop) : Prop := ∃ ve vs, Rlw w r S ve vs ∧ Inr O r ve vs ∧ Fine S ∧ ∀ b, O b → b < w.heap.size
def RlR (w : World) (r : Nat) (O : Nat → Prop) (S' : Ld) (w' : World) : Prop := Rl w' r S' (Nw O w w') ∧ Kp O w w'
section
variable {w w' : World} {r : Nat} {S : Ld} {ve : Value} {vs : List Value} {O : Nat → Prop}
theorem Inr.mono {O' : Nat → Prop} (h : Inr O r ve vs) (hs : ∀ b, O b → O' b) : Inr O' r ve vs := ⟨hs _ h.r, fun g hg => hs _ (h.ve g hg), fun v hv g hg => hs _ (h.vs v hv g hg)⟩
theorem Rl.keep (h : Rl w r S O) (hs : w.heap.size ≤ w'.heap.size) (hk : ∀ b, b < w.heap.size → O b → w'.heap[b]? = w.heap[b]?) : Rl w' r S O := by
  obtain ⟨ve, vs, h1, h2, h3, h4⟩ := h
  exact ⟨ve, vs, h1.keep h2 hk, h2, h3, fun b hb => Nat.lt_of_lt_of_le (h4 b hb) hs⟩
theorem Rl.up (h : Rl w r S O) (q : Below w.heap.size w w') : Rl w' r S O := h.keep q.size fun b hb _ => q.block b hb
theorem Rl.fine (h : Rl w r S O) : Fine S := by obtain ⟨_, _, _, _, h, _⟩ := h; exact h
theorem Rl.bd (h : Rl w r S O) : ∀ b, O b → b < w.heap.size := by obtain ⟨_, _, _, _, _, h⟩ := h; exact h
theorem Rl.lw (h : Rl w r S O) : ∃ ve vs, Rlw w r S ve vs := by obtain ⟨ve, vs, h, _⟩ := h; exact ⟨ve, vs, h⟩
theorem RlR.of {S' : Ld} (h0 : Rl w r S O) (h : Rlw w' r S' ve vs) (hi : Inr (fun b => O b ∨ w.heap.size ≤ b) r ve vs) (hF : Fine S') (hk : Kp O w w') : RlR w r O S' w' := by
  have lt : ∀ b, (O b ∨ w.heap.size ≤ b) → b < w'.heap.size → Nw O w w' b := fun b h1 h2 => h1.imp id fun h => ⟨h, h2⟩
  refine ⟨⟨ve, vs, h, ⟨lt _ hi.r h.head.lt, fun g hg => lt _ (hi.ve g hg) (own_ltb h.ents hg), fun v hv g hg => ?_⟩, hF, fun b hb => ?_⟩, hk⟩
  · obtain ⟨i, hiv⟩ := List.getElem?_of_mem hv
    have hl : i < S'.L.length := by have := (List.getElem?_eq_some_iff.1 hiv).1; rw [h.lens] at this; exact this
    exact lt _ (hi.vs v hv g hg) (own_ltb (h.each i _ v (List.getElem?_eq_getElem hl) hiv) hg)
  · rcases hb with hb | hb
    · exact Nat.lt_of_lt_of_le (h0.bd b hb) hk.size
    · exact hb.2
theorem RlR.same (h : Rl w r S O) (hb : Below w.heap.size w w') : RlR w r O S w' := by
  have h0 := h
  obtain ⟨ve, vs, h1, h2, h3, _⟩ := h
  exact RlR.of h0 (h1.up hb) (h2.mono fun b hb => .inl hb) h3 (Kp.of hb)
theorem fine_rlok (h : Fine S) : RlOk S.L := ⟨h.few, fun e he => ⟨(well_iff.1 (h.ok e he).well).2.1, (h.ok e he).am⟩⟩
theorem tellV_am {n : Int} (h : Am n) : tellV n = n := (tell_am h).1
theorem rng_out {n : Nat} {a c q : Int} : ∀ {L : List En}, (∀ e ∈ L, EnOk n e) → (q < 0 ∨ (n : Int) ≤ q) → rng a c q q L = 0
  | [], _, _ => rfl
  | e :: l, h, hq => by
    have i := rng_out (a := a) (c := c) (L := l) (fun y hy => h y (by simp [hy])) hq
    have k := h e (by simp)
    have := k.p0; have := k.p1
    simp only [rng, i]
    rw [if_neg (by omega)]; rfl
theorem rng_neg {n : Nat} {a c q : Int} : ∀ {L : List En}, (∀ e ∈ L, EnOk n e) → q < 0 → rng a c 0 q L = 0
  | [], _, _ => rfl
  | e :: l, h, hq => by
    have i := rng_neg (a := a) (c := c) (L := l) (fun y hy => h y (by simp [hy])) hq
    have k := h e (by simp)
    have := k.p0
    simp only [rng, i]
    rw [if_neg (by omega)]; rfl
theorem mov_is (F : Fine S) (a c q : Int) : movV S a c q = rng a c q q S.L ∧ Am (rng a c q q S.L) := by
  unfold movV
  by_cases h : q < 0 ∨ (S.n : Int) ≤ q
  · rw [if_pos h, rng_out F.ok h]; exact ⟨rfl, am0⟩
  · rw [if_neg h]; exact ⟨rfl, F.mov a c q (by omega) (by omega)⟩
set_option maxRecDepth 100000 in
set_option maxHeartbeats 2000000 in
theorem gmoved_any (a c q : Int) (h : Rl w r S O) : Calls Try.prog 20 #[.pointer (some ⟨r, 0, none⟩), .int .i64 a, .int .i64 c, .int .i64 q] w fun e w' => e = .returned (.int .i64 (movV S a c q)) ∧ Below w.heap.size w w' := by
  obtain ⟨e1, e2⟩ := mov_is h.fine a c q
  have HSm := Lib.hid (rng_small (fine_rlok h.fine) a c q q)
  have HTl := Lib.hid (tellV_am e2)
  obtain ⟨ve, vs, hw⟩ := h.lw
  have HSum := Lib.hid (gsum_any a c q q hw (fine_rlok h.fine))
  rw [e1]
  clear h hw e1 e2
  go_enter Try.func20, Try.ntmps20
  go_wp2_with fail
  refine HSum.out.mono ?_
  rintro e w1 ⟨s1, a1, n1, p1, rfl, hE, hb⟩
  have HB := Lib.hid hb
  have HE := Lib.hid hE
  clear hb hE
  go_wp2_with fail
  refine (fit_any _ _ _ _ _ _ HE.out HSm.out).mono ?_
  rintro e w2 ⟨rfl, hb⟩
  have HB2 := Lib.hid (up2 HB.out hb)
  clear hb
  rw [HTl.out]
  go_wp2_with fail
  go_ret
  exact ⟨rfl, HB2.out⟩
set_option maxRecDepth 100000 in
set_option maxHeartbeats 2000000 in
theorem gbal_any (a c q : Int) (h : Rl w r S O) : Calls Try.prog 22 #[.pointer (some ⟨r, 0, none⟩), .int .i64 a, .int .i64 c, .int .i64 q] w fun e w' => e = .returned (.int .i64 (balV S a c q)) ∧ Below w.heap.size w w' := by
  obtain ⟨ve, vs, hw⟩ := h.lw
  obtain ⟨ea, ec, hrc, _⟩ := hw.rc
  have c0 := hrc.1
  by_cases hq : (S.n : Int) ≤ q
  · have e1 : balV S a c q = 0 := by unfold balV; rw [if_pos (.inr hq)]
    rw [e1]
    clear h hw hrc e1
    go_enter Try.func22, Try.ntmps22
    go_wp2_with fail
    go_ret
    exact ⟨rfl, Below.refl _ _⟩
  · have e1 : balV S a c q = rng a c 0 q S.L ∧ Am (rng a c 0 q S.L) := by
      unfold balV
      by_cases h0 : q < 0
      · rw [if_pos (.inl h0), rng_neg h.fine.ok h0]; exact ⟨rfl, am0⟩
      · rw [if_neg (by omega)]; exact ⟨rfl, h.fine.bal a c q (by omega) (by omega)⟩
    obtain ⟨e1, e2⟩ := e1
    have HSm := Lib.hid (rng_small (fine_rlok h.fine) a c 0 q)
    have HTl := Lib.hid (tellV_am e2)
    have HSum := Lib.hid (gsum_any a c 0 q hw (fine_rlok h.fine))
    rw [e1]
    clear h hw e1 e2 hrc
    go_enter Try.func22, Try.ntmps22
    go_wp2_with fail
    refine HSum.out.mono ?_
    rintro e w1 ⟨s1, a1, n1, p1, rfl, hE, hb⟩
    have HB := Lib.hid hb
    have HE := Lib.hid hE
    clear hb hE c0
    go_wp2_with fail
    refine (fit_any _ _ _ _ _ _ HE.out HSm.out).mono ?_
    rintro e w2 ⟨rfl, hb⟩
    have HB2 := Lib.hid (up2 HB.out hb)
    clear hb
    rw [HTl.out]
    go_wp2_with fail
    go_ret
    exact ⟨rfl, HB2.out⟩
theorem tot_small {L : List En} (h : RlOk L) (a p : Int) (k : Nat) (hk : k ≤ 40) : Small (sumTo (fun c => rng a c 0 p L) k) := by
  have key : ∀ k : Nat, -(295147905179352825856 * 5000 * (k : Int)) ≤ sumTo (fun c => rng a c 0 p L) k ∧ sumTo (fun c => rng a c 0 p L) k ≤ 295147905179352825856 * 5000 * (k : Int) := by
    intro k
    induction k with
    | zero => simp [sumTo]
    | succ k ih =>
      have := rng_bd a k 0 p L h.2
      have := h.1
      simp only [sumTo]
      omega
  have := key k
  exact small_of (by omega) (by omega)
theorem tot_is (S : Ld) (a p : Int) (h : ¬ (a < 0 ∨ 3 < a ∨ p < 0 ∨ (S.n : Int) ≤ p)) : totV S a p = tellV (totX S a p) ∧ totE S a p = tellE (totX S a p) := by
  unfold totV totE tellV tellE
  rw [if_neg h]
  by_cases q : -9223372036854775808 ≤ totX S a p ∧ totX S a p ≤ 9223372036854775807
  · have : amB (totX S a p) = true := amB_iff.2 q
    rw [if_pos this, if_pos q, if_pos q]; simp
  · have : ¬ amB (totX S a p) = true := fun z => q (amB_iff.1 z)
    rw [if_neg this, if_neg q, if_neg q]; simp
set_option maxRecDepth 100000 in
set_option maxHeartbeats 8000000 in
theorem gtot_any (a q : Int) (h : Rl w r S O) : Calls Try.prog 18 #[.pointer (some ⟨r, 0, none⟩), .int .i64 a, .int .i64 q] w fun e w' => e = .returned (.tuple #[.int .i64 (totV S a q), .int .i64 (totE S a q)]) ∧ Below w.heap.size w w' := by
  have HR := Lib.hid h
  obtain ⟨ve, vs, hw⟩ := h.lw
  obtain ⟨ea, ec, hrc, _⟩ := hw.rc
  have c0 := hrc.1
  have HOk := Lib.hid (fine_rlok h.fine)
  by_cases hbad : a < 0 ∨ 3 < a ∨ q < 0 ∨ (S.n : Int) ≤ q
  · have e2 : totE S a q = 1 := by unfold totE; rw [if_pos hbad]
    have e1 : totV S a q = 0 := by unfold totV; rw [e2]; rfl
    rw [e1, e2]
    clear h hw hrc e1 e2 HR HOk
    by_cases h1 : a < 0
    · go_enter Try.func18, Try.ntmps18
      go_wp2_with fail
      go_ret2
      exact ⟨rfl, Below.refl _ _⟩
    · by_cases h2 : 3 < a
      · go_enter Try.func18, Try.ntmps18
        go_wp2_with fail
        go_ret2
        exact ⟨rfl, Below.refl _ _⟩
      · by_cases h3 : q < 0
        · go_enter Try.func18, Try.ntmps18
          go_wp2_with fail
          go_ret2
          exact ⟨rfl, Below.refl _ _⟩
        · have h4 : (S.n : Int) ≤ q := by omega
          go_enter Try.func18, Try.ntmps18
          go_wp2_with fail
          go_ret2
          exact ⟨rfl, Below.refl _ _⟩
  · obtain ⟨e1, e2⟩ := tot_is S a q hbad
    rw [e1, e2]
    have h1 : ¬ a < 0 := by omega
    have h2 : ¬ 3 < a := by omega
    have h3 : ¬ q < 0 := by omega
    have h4 : ¬ (S.n : Int) ≤ q := by omega
    have HSt := Lib.hid (Sm.start w)
    have HSz := Lib.hid (tot_small HOk.out a q)
    clear h hw hrc e1 e2 hbad
    go_enter Try.func18, Try.ntmps18
    go_wp2_with fail
    obtain ⟨W0, hW0⟩ : ∃ W0, W0 = w.alloc (.cells #[.int .i64 0, .slice none 0 0] 68) := ⟨_, rfl⟩
    rw [← hW0] at HSt
    rw [← hW0]
    clear hW0 c0 h1 h2 h3 h4
    go_loopw [9] (fun i wr => ∃ k : Nat, k ≤ 40 ∧ i = .int .i64 k ∧ ∃ s a' l2 c2, Sm w (sumTo (fun c => rng a c 0 q S.L) k) s a' l2 c2 wr) (fun i _ => 40 - (intOf i).toNat)
    case atStart => exact ⟨0, Nat.zero_le _, rfl, _, _, _, _, HSt.out⟩
    case round =>
      obtain ⟨k, hk, rfl, s, a', l2, c2, hS⟩ := hrel
      have HS := Lib.hid hS
      have HRk := Lib.hid (HR.out.up hS.1.drew)
      obtain ⟨c0, c1, g0, g1⟩ := hS.2.2.1
      clear hS
      by_cases hlt : k < 40
      · have hk1 : (k : Int) < 40 := by omega
        have HSum : Hid (∀ W, Below wr.heap.size wr W → Calls Try.prog 31 #[.pointer (some ⟨r, 0, none⟩), .int .i64 a, .int .i64 k, .int .i64 0, .int .i64 q] W (ExPost W (rng a k 0 q S.L))) := fun W hb => by
          obtain ⟨ve, vs, hw⟩ := (HR.out.up (up2 HS.out.1 hb)).lw
          exact gsum_any a k 0 q hw HOk.out
        go_wp2_with fail
        go_region_with (first | (go_at_call 31; ((with_reducible refine (HSum.out _ (Below.refl _ _).drew).mono ?_); rintro e' w1 ⟨s1, a1, n1, p1, rfl, hE1, hb1⟩; have kT1 := Lib.hid (HS.out.drew.up hb1); have kE1 := Lib.hid hE1; clear hE1 hb1; obtain ⟨u0, u1, v0, v1⟩ := kT1.out.2.2.1)) | (go_at_call 36; ((with_reducible refine (plus_ex s s1 (sumTo (fun c => rng a c 0 q S.L) k) (rng a k 0 q S.L) a' a1 l2 n1 c2 p1 _ kT1.out.ex kE1.out (HSz.out k (by omega)) (rng_small HOk.out a k 0 q)).mono ?_); rintro e' w2 ⟨s2, a2, n2, p2, rfl, hE2, hb2⟩; have kT2 := Lib.hid (kT1.out.up hb2); have kE2 := Lib.hid hE2; clear hE2 hb2; obtain ⟨u2, u3, v2, v3⟩ := kT2.out.2.2.1)))
        all_goals
          go_wp2_with fail
          go_roundw
          case rel => exact ⟨k + 1, by omega, by go_num, s2, a2, n2, p2, kT2.out.put kE2.out⟩
          case measure => simp [intOf]; omega
      · have hke : k = 40 := by omega
        subst hke
        go_wp2_with fail
        refine (fit_any _ _ _ _ _ _ HS.out.ex (HSz.out 40 (by omega))).mono ?_
        rintro e w2 ⟨rfl, hb⟩
        have HB2 := Lib.hid (up2 HS.out.1 hb)
        clear hb
        go_wp2_with fail
        go_ret2
        exact ⟨rfl, HB2.out⟩
set_option maxRecDepth 100000 in
set_option maxHeartbeats 2000000 in
theorem gnew_no (n : Int) (q : n < 1 ∨ 240 < n) : Calls Try.prog 10 #[.int .i64 n] w fun e w' => e = .returned (.tuple #[.pointer none, .int .i64 1]) ∧ w = w' := by
  rcases q with q | q
  · go_enter Try.func10, Try.ntmps10
    go_wp2
    go_ret2
    exact ⟨rfl, rfl⟩
  · have q' : ¬ n < 1 := by omega
    go_enter Try.func10, Try.ntmps10
    go_wp2
    go_ret2
    exact ⟨rfl, rfl⟩
set_option maxRecDepth 100000 in
set_option maxHeartbeats 2000000 in
theorem gnew_yes (n : Nat) (h0 : 1 ≤ n) (h1 : n ≤ 240) : Calls Try.prog 10 #[.int .i64 (n : Int)] w fun e w' =>
    e = .returned (.tuple #[.pointer (some ⟨w.heap.size, 0, none⟩), .int .i64 0]) ∧ Rl w' w.heap.size ⟨n, 0, []⟩ (Own9 w w') ∧ Below w.heap.size w w' := by
  have q1 : ¬ ((n : Int) < 1) := by omega
  have q2 : ¬ (240 < (n : Int)) := by omega
  have hend : Rl (w.alloc (.cells #[.int .i64 (n : Int), .int .i64 0, .slice none 0 0] 43)) w.heap.size ⟨n, 0, []⟩ (Own9 w (w.alloc (.cells #[.int .i64 (n : Int), .int .i64 0, .slice none 0 0] 43))) := by
    refine ⟨.slice none 0 0, [], ⟨?_, World.ownsRow_nil _ _ _ _, rfl, by simp⟩, ⟨⟨by omega, by simp⟩, (fun g hg => by cases hg), by simp⟩, fine_new n h0 h1, fun b hb => hb.2⟩
    exact Has.fresh w 43 #[.int .i64 (n : Int), .int .i64 0, .slice none 0 0]
  have HE := Lib.hid hend
  clear hend
  go_enter Try.func10, Try.ntmps10
  go_wp2_with fail
  go_ret2
  exact ⟨rfl, HE.out, boxed _ _⟩
def GcloR (w : World) (r : Nat) (S : Ld) (O : Nat → Prop) (q : Int) (e : Ending) (w' : World) : Prop := e = .returned (.int .i64 (cloE S q)) ∧ RlR w r O (cloS S q) w'
set_option maxRecDepth 100000 in
set_option maxHeartbeats 2000000 in
theorem gclose_any (q : Int) (h : Rl w r S O) : Calls Try.prog 14 #[.pointer (some ⟨r, 0, none⟩), .int .i64 q] w (GcloR w r S O q) := by
  have HL := Lib.hid h
  have hF := h.fine
  obtain ⟨ve, vs, h, hin, _⟩ := h
  obtain ⟨ea, ec, hrc, _⟩ := h.rc
  obtain ⟨c0, c1, c2⟩ := hrc
  have hn := hF.n1
  have hop := hF.op
  unfold GcloR cloS
  by_cases h1 : q = S.op
  · have hb : (q != (S.op : Int)) = false := by rw [h1]; simp
    by_cases h2 : S.op < S.n
    · have hE : cloE S q = 0 := by unfold cloE; rw [if_pos ⟨h1, h2⟩]
      rw [hE, if_pos rfl]
      have e1 : IntKind.i64.wrap ((S.op : Int) + 1) = (S.op : Int) + 1 := IntWalk.i64_in _ (by omega)
      have f1 := h.head.free 1
      have hq : ¬ ((S.n : Int) ≤ q) := by omega
      have hend : RlR w r O { S with op := S.op + 1 } (w.setCell ⟨r, 1, none⟩ (.int .i64 ((S.op : Int) + 1))) := by
        refine RlR.of HL.out (ve := ve) (vs := vs) ⟨?_, own_keep h.ents fun g hg => setCell_heap _ _ _ _ (own_type h.ents h.head (by decide) g hg), h.lens, fun i e v he hv => ?_⟩ (hin.mono fun b hb => .inl hb) ⟨hF.n0, hF.n1, by show S.op + 1 ≤ S.n; omega, hF.few, hF.ok, hF.mov, hF.bal⟩ (Kp.set _ _ _ hin.r)
        · exact h.head.put 1 (.int .i64 ((S.op : Int) + 1))
        · have := h.each i e v he hv
          exact own_keep this fun g hg => setCell_heap _ _ _ _ (own_type this h.head (by decide) g hg)
      have HE := Lib.hid hend
      clear h h1 h2 hE c2 hF hin hend
      go_enter Try.func14, Try.ntmps14
      go_wp2_with fail
      go_ret
      exact ⟨rfl, HE.out⟩
    · have hE : cloE S q = 1 := by unfold cloE; rw [if_neg (fun z => h2 z.2)]
      rw [hE, if_neg (by omega)]
      have hq : (S.n : Int) ≤ q := by omega
      clear h h1 h2 hE c2 hF hin
      go_enter Try.func14, Try.ntmps14
      go_wp2_with fail
      go_ret
      exact ⟨rfl, RlR.same HL.out (Below.refl _ _)⟩
  · have hE : cloE S q = 1 := by unfold cloE; rw [if_neg (fun z => h1 z.1)]
    rw [hE, if_neg (by omega)]
    have hb : (q != (S.op : Int)) = true := by simpa using h1
    clear h h1 hE c2 hF hin
    go_enter Try.func14, Try.ntmps14
    go_wp2_with fail
    go_ret
    exact ⟨rfl, RlR.same HL.out (Below.refl _ _)⟩
end
end Go.Proofs.Ytginbgclifdfiaa
