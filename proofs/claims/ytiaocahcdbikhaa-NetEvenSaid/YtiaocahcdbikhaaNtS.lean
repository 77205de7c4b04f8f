/- The program's net: post; Bill, Earn; all that was asked. -/
import Derived.Test.YtiaocahcdbikhaaNtR
namespace Go.Proofs.Ytiaocahcdbikhaa
open Go.RowKit

theorem NtR.no {w w' : World} {E : Int} {L : List Po} {e : Ending} (hE : E ≠ 0) (he : e = .returned (.tuple #[.slice none 0 0, .int .i64 E])) (hb : Below w.heap.size w w') : NtR w E L e w' := ⟨hb, .inl ⟨hE, he⟩⟩
theorem NtR.yes {w0 w' : World} {p : Nat} {c : Int} {L : List Po} {v : Value} {e : Ending} (h : Sh w0 w' p c L v) (he : e = .returned (.tuple #[v, .int .i64 0])) : NtR w0 0 L e w' := by
  obtain ⟨a, k, hv⟩ := own_form17 h.own
  subst hv
  exact ⟨h.bel, .inr ⟨rfl, a, k, he, h.own⟩⟩
set_option maxRecDepth 100000 in
set_option maxHeartbeats 8000000 in
theorem ntpost_any (c b r x y : Int) (w : World) (hb : Am b) (hr : Am r) (hx : Am x) (hy : Am y) : Calls Try.prog 18 #[.int .i64 c, .agg #[.int .i64 b, .int .i64 r], .agg #[.int .i64 x, .int .i64 y]] w (NtR w (ntE c b r x y) (ntL c b r x y)) := by
  have hNo : ∀ (E : Int) e w', E ≠ 0 → e = .returned (.tuple #[.slice none 0 0, .int .i64 E]) → Below w.heap.size w w' → NtR w E (ntL c b r x y) e w' := fun E e w' q z hb => NtR.no q z hb
  have HNo := Lib.hid hNo
  have HBel := Lib.hid (fun (W : World) => ntbelow_any b r W)
  have HPl := Lib.hid (fun (W : World) => ntplus_any b r x y W hb hr hx hy)
  obtain ⟨W0, hW0⟩ : ∃ W0, W0 = (w.alloc (.cells #[.int .i64 b, .int .i64 r] 43)).alloc (.cells #[.int .i64 x, .int .i64 y] 43) := ⟨_, rfl⟩
  have HB0 : Hid (Below w.heap.size w W0) := by rw [hW0]; exact Lib.hid (up2 (boxed _ _) (boxed _ _))
  have hX := Lib.hid ((Has.fresh w 43 #[.int .i64 b, .int .i64 r]).more (.cells #[.int .i64 x, .int .i64 y] 43))
  have hY := Lib.hid (Has.fresh (w.alloc (.cells #[.int .i64 b, .int .i64 r] 43)) 43 #[.int .i64 x, .int .i64 y])
  rw [← hW0] at hX hY
  simp only [World.size_alloc] at hY
  have HW0 := Lib.hid hW0
  clear hNo hW0
  by_cases q1 : c < 0
  · have e0 : ntE c b r x y = 1 := by unfold ntE; rw [if_pos (.inl q1)]
    rw [e0]
    generalize ntL c b r x y = L at HNo ⊢
    clear e0 hb hr hx hy
    obtain ⟨Q, hQ⟩ : ∃ Q : Ending → World → Prop, Q = NtR w 1 L := ⟨_, rfl⟩
    have HQ := Lib.hid hQ
    rw [← hQ]
    clear hQ
    go_enter Try.func18, Try.ntmps18
    go_wp2_with fail
    rw [← HW0.out]
    rw [HQ.out]
    exact HNo.out 1 _ _ (by decide) rfl HB0.out
  by_cases q2 : 40 ≤ c
  · have e0 : ntE c b r x y = 1 := by unfold ntE; rw [if_pos (.inr (.inl (by omega)))]
    rw [e0]
    generalize ntL c b r x y = L at HNo ⊢
    clear e0 hb hr hx hy
    obtain ⟨Q, hQ⟩ : ∃ Q : Ending → World → Prop, Q = NtR w 1 L := ⟨_, rfl⟩
    have HQ := Lib.hid hQ
    rw [← hQ]
    clear hQ
    go_enter Try.func18, Try.ntmps18
    go_wp2_with fail
    rw [← HW0.out]
    rw [HQ.out]
    exact HNo.out 1 _ _ (by decide) rfl HB0.out
  rcases sidE_le b r with q3 | q3
  rotate_left
  · have e0 : ntE c b r x y = 1 := by
      unfold sidE at q3
      unfold ntE
      rw [if_pos]
      split at q3
      · rename_i z; exact z.elim (fun z => .inr (.inr (.inl z))) fun z => .inr (.inr (.inr z))
      · cases q3
    rw [e0]
    rw [q3] at HBel
    rw [show decide ((1 : Int) = 1) = true by decide] at HBel
    generalize ntL c b r x y = L at HNo ⊢
    clear e0 hb hr hx hy q3
    obtain ⟨Q, hQ⟩ : ∃ Q : Ending → World → Prop, Q = NtR w 1 L := ⟨_, rfl⟩
    have HQ := Lib.hid hQ
    rw [← hQ]
    clear hQ
    go_enter Try.func18, Try.ntmps18
    go_wp2_with fail
    rw [← HW0.out]
    refine (HBel.out _).mono ?_
    rintro e w1 ⟨rfl, hq⟩
    have B1 := Lib.hid (up2 HB0.out hq)
    have X1 := Lib.hid (hX.out.up hq)
    have Y1 := Lib.hid (hY.out.up hq)
    clear hq
    go_wp2_with fail
    rw [HQ.out]
    exact HNo.out 1 _ _ (by decide) rfl B1.out
  have h0 := sidE_in q3
  rw [q3] at HBel
  rw [show decide ((0 : Int) = 1) = false by decide] at HBel
  by_cases q4 : tellE (b + x) = 0 ∧ tellE (r + y) = 0
  rotate_left
  · have e0 : ntE c b r x y = 3 := by
      unfold ntE
      rw [if_neg (by omega), if_pos (by
        by_cases z : tellE (b + x) = 0
        · exact .inr fun z' => q4 ⟨z, z'⟩
        · exact .inl z)]
    have e1 : plF b r x y = 3 := by unfold plF; rw [if_neg q4]
    have e2 : plW b r x y = .agg #[.int .i64 0, .int .i64 0] := by unfold plW; rw [if_neg q4]
    rw [e0]
    rw [e1, e2] at HPl
    generalize ntL c b r x y = L at HNo ⊢
    clear e0 e1 e2 hb hr hx hy q3 q4 h0
    obtain ⟨Q, hQ⟩ : ∃ Q : Ending → World → Prop, Q = NtR w 3 L := ⟨_, rfl⟩
    have HQ := Lib.hid hQ
    rw [← hQ]
    clear hQ
    go_enter Try.func18, Try.ntmps18
    go_wp2_with fail
    rw [← HW0.out]
    refine (HBel.out _).mono ?_
    rintro e w1 ⟨rfl, hq⟩
    have B1 := Lib.hid (up2 HB0.out hq)
    have X1 := Lib.hid (hX.out.up hq)
    have Y1 := Lib.hid (hY.out.up hq)
    have x0 := X1.out.cell 0
    have x1 := X1.out.cell 1
    have y0 := Y1.out.cell 0
    have y1 := Y1.out.cell 1
    simp at x0 x1 y0 y1
    clear hq
    go_wp2_with fail
    refine (HPl.out _).mono ?_
    rintro e w2 ⟨rfl, hq⟩
    have B2 := Lib.hid (up2 B1.out hq)
    clear hq x0 x1 y0 y1
    go_wp2_with fail
    rw [HQ.out]
    exact HNo.out 3 _ _ (by decide) rfl (up2 B2.out (boxed _ _))
  have e1 : plF b r x y = 0 := by unfold plF; rw [if_pos q4]
  have e2 : plW b r x y = .agg #[.int .i64 (b + x), .int .i64 (r + y)] := by unfold plW; rw [if_pos q4]
  rw [e1, e2] at HPl
  have HBe2 := Lib.hid (fun (W : World) => ntbelow_any (b + x) (r + y) W)
  rcases sidE_le (b + x) (r + y) with q5 | q5
  rotate_left
  · have e0 : ntE c b r x y = 1 := by
      unfold sidE at q5
      unfold ntE
      rw [if_neg (by omega), if_neg (fun z => z.elim (fun z => z q4.1) fun z => z q4.2), if_pos]
      split at q5
      · assumption
      · cases q5
    rw [e0]
    rw [q5] at HBe2
    rw [show decide ((1 : Int) = 1) = true by decide] at HBe2
    generalize ntL c b r x y = L at HNo ⊢
    clear e0 e1 e2 hb hr hx hy q3 q4 q5 h0
    generalize b + x = bx at HPl HBe2
    generalize r + y = ry at HPl HBe2
    obtain ⟨Q, hQ⟩ : ∃ Q : Ending → World → Prop, Q = NtR w 1 L := ⟨_, rfl⟩
    have HQ := Lib.hid hQ
    rw [← hQ]
    clear hQ
    go_enter Try.func18, Try.ntmps18
    go_wp2_with fail
    rw [← HW0.out]
    refine (HBel.out _).mono ?_
    rintro e w1 ⟨rfl, hq⟩
    have B1 := Lib.hid (up2 HB0.out hq)
    have X1 := Lib.hid (hX.out.up hq)
    have Y1 := Lib.hid (hY.out.up hq)
    have x0 := X1.out.cell 0
    have x1 := X1.out.cell 1
    have y0 := Y1.out.cell 0
    have y1 := Y1.out.cell 1
    simp at x0 x1 y0 y1
    clear hq
    go_wp2_with fail
    refine (HPl.out _).mono ?_
    rintro e w2 ⟨rfl, hq⟩
    have B2 := Lib.hid (up2 B1.out hq)
    clear hq x0 x1 y0 y1
    go_wp2_with fail
    refine (HBe2.out _).mono ?_
    rintro e w3 ⟨rfl, hq⟩
    have B3 := Lib.hid (up2 B2.out (up2 (boxed _ _) hq))
    clear hq
    go_wp2_with fail
    rw [HQ.out]
    exact HNo.out 1 _ _ (by decide) rfl B3.out
  have h1 := sidE_in q5
  have e0 : ntE c b r x y = 0 := by
    unfold ntE
    rw [if_neg (by omega), if_neg (fun z => z.elim (fun z => z q4.1) fun z => z q4.2), if_neg (by omega)]
  rw [e0]
  rw [q5] at HBe2
  rw [show decide ((0 : Int) = 1) = false by decide] at HBe2
  have HCh : Hid (∀ (W : World) (p : Nat) (v : Value), Sh w W p c [] v → Calls Try.prog 28 #[.agg #[.int .i64 b, .int .i64 r], .agg #[.int .i64 (b + x), .int .i64 (r + y)], .func (.func 29) #[.pointer (some ⟨p, 0, none⟩)] #[], .func (.func 30) #[.pointer (some ⟨p, 0, none⟩)] #[]] W (ShR w W p c (ntL c b r x y))) := Lib.hid fun W p v h => by
    have k := nt_ok e0
    exact ntchange_any h b r x y k.b0 hb.2 k.r0 hr.2 k.b2 k.b3 k.r2 k.r3
  unfold ShR at HCh
  have HYes : Hid (∀ (p : Nat) (v : Value) (W : World), Sh w W p c (ntL c b r x y) v → NtR w 0 (ntL c b r x y) (.returned (.tuple #[v, .int .i64 0])) W) := Lib.hid fun p v W h => NtR.yes h rfl
  generalize ntL c b r x y = L at HYes HCh ⊢
  clear e0 e1 e2 hb hr hx hy q3 q4 q5 h0 h1 HNo
  generalize b + x = bx at HPl HBe2 HCh
  generalize r + y = ry at HPl HBe2 HCh
  obtain ⟨Q, hQ⟩ : ∃ Q : Ending → World → Prop, Q = NtR w 0 L := ⟨_, rfl⟩
  have HQ := Lib.hid hQ
  rw [← hQ]
  clear hQ
  go_enter Try.func18, Try.ntmps18
  go_wp2_with fail
  rw [← HW0.out]
  refine (HBel.out _).mono ?_
  rintro e w1 ⟨rfl, hq⟩
  have B1 := Lib.hid (up2 HB0.out hq)
  have X1 := Lib.hid (hX.out.up hq)
  have Y1 := Lib.hid (hY.out.up hq)
  have x0 := X1.out.cell 0
  have x1 := X1.out.cell 1
  have y0 := Y1.out.cell 0
  have y1 := Y1.out.cell 1
  simp at x0 x1 y0 y1
  clear hq
  go_wp2_with fail
  refine (HPl.out _).mono ?_
  rintro e w2 ⟨rfl, hq⟩
  have B2 := Lib.hid (up2 B1.out hq)
  have X2 := Lib.hid (X1.out.up hq)
  clear hq x0 x1 y0 y1
  go_wp2_with fail
  refine (HBe2.out _).mono ?_
  rintro e w3 ⟨rfl, hq⟩
  have B3 := Lib.hid (up2 B2.out (up2 (boxed _ _) hq))
  have X3 := Lib.hid ((X2.out.up (boxed _ _)).up hq)
  have Z3 := Lib.hid ((Has.fresh w2 43 #[.int .i64 bx, .int .i64 ry]).up hq)
  have HS := Lib.hid (show Sh w (w3.alloc (.cells #[.int .i64 c, .slice none 0 0] 63)) w3.heap.size c [] (.slice none 0 0) from ⟨Has.fresh w3 63 _, World.ownsRow_nil _ _ _ _, B3.out.size, up2 B3.out (boxed _ _)⟩)
  have x0 := X3.out.cell 0
  have x1 := X3.out.cell 1
  have z0 := Z3.out.cell 0
  have z1 := Z3.out.cell 1
  have hlx := X3.out.lt
  have hlz := Z3.out.lt
  simp at x0 x1 z0 z1
  clear hq
  go_wp2_with fail
  refine (HCh.out _ _ _ HS.out).mono ?_
  rintro e w5 ⟨rfl, ⟨v5, h5⟩, _⟩
  have H5 := Lib.hid h5
  have c1 := h5.has.cell 1
  simp at c1
  clear h5 x0 x1 z0 z1 hlx hlz
  go_wp2_with fail
  rw [HQ.out]
  exact HYes.out _ _ _ H5.out
set_option maxRecDepth 100000 in
set_option maxHeartbeats 2000000 in
theorem ntbill_any (w : World) (c b r x : Int) (hb : Am b) (hr : Am r) (hx : Am x) : Calls Try.prog 10 #[.int .i64 c, .int .i64 b, .int .i64 r, .int .i64 x] w (NtR w (ntE c b r x 0) (ntL c b r x 0)) := by
  have H := Lib.hid (ntpost_any c b r x 0 w hb hr hx (by unfold Am; omega))
  generalize ntE c b r x 0 = E at H ⊢
  generalize ntL c b r x 0 = L at H ⊢
  clear hb hr hx
  go_enter Try.func10, Try.ntmps10
  go_wp2_with fail
  refine H.out.mono ?_
  rintro e w1 ⟨hb, ⟨q, rfl⟩ | ⟨q, a, k, rfl, ho⟩⟩
  · go_wp2_with fail
    go_ret2
    exact ⟨hb, .inl ⟨q, rfl⟩⟩
  · have HO := Lib.hid ho
    clear ho
    go_wp2_with fail
    go_ret2
    exact ⟨hb, .inr ⟨q, a, k, rfl, HO.out⟩⟩
set_option maxRecDepth 100000 in
set_option maxHeartbeats 2000000 in
theorem ntearn_any (w : World) (c b r y : Int) (hb : Am b) (hr : Am r) (hy : Am y) : Calls Try.prog 12 #[.int .i64 c, .int .i64 b, .int .i64 r, .int .i64 y] w (NtR w (ntE c b r 0 y) (ntL c b r 0 y)) := by
  have H := Lib.hid (ntpost_any c b r 0 y w hb hr (by unfold Am; omega) hy)
  generalize ntE c b r 0 y = E at H ⊢
  generalize ntL c b r 0 y = L at H ⊢
  clear hb hr hy
  go_enter Try.func12, Try.ntmps12
  go_wp2_with fail
  refine H.out.mono ?_
  rintro e w1 ⟨hb, ⟨q, rfl⟩ | ⟨q, a, k, rfl, ho⟩⟩
  · go_wp2_with fail
    go_ret2
    exact ⟨hb, .inl ⟨q, rfl⟩⟩
  · have HO := Lib.hid ho
    clear ho
    go_wp2_with fail
    go_ret2
    exact ⟨hb, .inr ⟨q, a, k, rfl, HO.out⟩⟩
theorem ntk : NtK := ⟨fun w b r hb hr => ntSides_any b r w hb hr, ntbill_any, ntearn_any⟩
end Go.Proofs.Ytiaocahcdbikhaa
