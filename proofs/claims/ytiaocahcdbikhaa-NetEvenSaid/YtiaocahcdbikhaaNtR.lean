/- The program's net: credit, change. -/
import Derived.Test.YtiaocahcdbikhaaNtQ
namespace Go.Proofs.Ytiaocahcdbikhaa
open Go.RowKit

section
variable {w0 w w' : World} {p : Nat} {c : Int} {L : List Po} {v : Value}
set_option maxRecDepth 100000 in
set_option maxHeartbeats 2000000 in
theorem ntcredit_any (h : Sh w0 w p c L v) (hl : L.length ≤ 8) (a f t : Int) (hf : 0 ≤ f) (hf1 : f ≤ 9223372036854775807) (ht : 0 ≤ t) (ht1 : t ≤ 9223372036854775807) :
    Calls Try.prog 30 #[.pointer (some ⟨p, 0, none⟩), .int .i64 a, .int .i64 f, .int .i64 t] w (ShR w0 w p c (L ++ onePo a c (f - t))) := by
  have H1 := Lib.hid (ntdebit_any h hl a t f ht ht1 hf hf1)
  generalize L ++ onePo a c (f - t) = K at H1 ⊢
  unfold ShR at H1 ⊢
  clear h hl hf hf1 ht ht1
  go_enter Try.func30, Try.ntmps30
  go_wp2_with fail
  refine H1.out.mono ?_
  rintro e w1 ⟨rfl, h1⟩
  have HX := Lib.hid h1
  clear h1
  go_wp2_with fail
  go_end0
  exact ⟨rfl, HX.out⟩
theorem onePo_len (a c n : Int) : (onePo a c n).length ≤ 1 := by unfold onePo; split <;> simp
set_option maxRecDepth 100000 in
set_option maxHeartbeats 4000000 in
theorem ntchange_any (h : Sh w0 w p c [] v) (b r x y : Int) (hb : 0 ≤ b) (hb1 : b ≤ 9223372036854775807) (hr : 0 ≤ r) (hr1 : r ≤ 9223372036854775807) (hx : 0 ≤ b + x) (hx1 : b + x ≤ 9223372036854775807) (hy : 0 ≤ r + y) (hy1 : r + y ≤ 9223372036854775807) :
    Calls Try.prog 28 #[.agg #[.int .i64 b, .int .i64 r], .agg #[.int .i64 (b + x), .int .i64 (r + y)], .func (.func 29) #[.pointer (some ⟨p, 0, none⟩)] #[], .func (.func 30) #[.pointer (some ⟨p, 0, none⟩)] #[]] w (ShR w0 w p c (ntL c b r x y)) := by
  unfold ShR
  have s1 := sides_bd hb hb1 hr hr1
  have s2 := sides_bd hx hx1 hy hy1
  have HS1 := Lib.hid (fun (W : World) => ntsides_any b r W hb hb1 hr hr1)
  have HS2 := Lib.hid (fun (W : World) => ntsides_any (b + x) (r + y) W hx hx1 hy hy1)
  have hL : ntL c b r x y = (((([] ++ onePo 0 c (b + x - b)) ++ onePo 1 c (liaV b r - liaV (b + x) (r + y))) ++ onePo 2 c (assV (b + x) (r + y) - assV b r)) ++ onePo 3 c (r - (r + y))) := by
    unfold ntL
    rw [show b + x - b = x by omega, show r - (r + y) = -y by omega, show liaV b r - liaV (b + x) (r + y) = -(liaV (b + x) (r + y) - liaV b r) by omega]
    simp
  rw [hL]
  clear hL
  have HC1 : Hid (∀ W, Below w.heap.size w W → Calls Try.prog 29 #[.pointer (some ⟨p, 0, none⟩), .int .i64 0, .int .i64 b, .int .i64 (b + x)] W (ShR w0 W p c ([] ++ onePo 0 c (b + x - b)))) := Lib.hid fun W q => ntdebit_any (h.up q) (by simp) 0 b (b + x) hb hb1 hx hx1
  generalize hl1 : [] ++ onePo 0 c (b + x - b) = L1 at HC1 ⊢
  have n1 : L1.length ≤ 1 := by rw [← hl1]; have := onePo_len 0 c (b + x - b); simpa using this
  have HC2 : Hid (∀ W v, Sh w0 W p c L1 v → Calls Try.prog 30 #[.pointer (some ⟨p, 0, none⟩), .int .i64 1, .int .i64 (liaV b r), .int .i64 (liaV (b + x) (r + y))] W (ShR w0 W p c (L1 ++ onePo 1 c (liaV b r - liaV (b + x) (r + y))))) := Lib.hid fun W v q => ntcredit_any q (by omega) 1 _ _ (by omega) (by omega) (by omega) (by omega)
  generalize hl2 : L1 ++ onePo 1 c (liaV b r - liaV (b + x) (r + y)) = L2 at HC2 ⊢
  have n2 : L2.length ≤ 2 := by rw [← hl2]; have := onePo_len 1 c (liaV b r - liaV (b + x) (r + y)); rw [List.length_append]; omega
  have HC3 : Hid (∀ W v, Sh w0 W p c L2 v → Calls Try.prog 29 #[.pointer (some ⟨p, 0, none⟩), .int .i64 2, .int .i64 (assV b r), .int .i64 (assV (b + x) (r + y))] W (ShR w0 W p c (L2 ++ onePo 2 c (assV (b + x) (r + y) - assV b r)))) := Lib.hid fun W v q => ntdebit_any q (by omega) 2 _ _ (by omega) (by omega) (by omega) (by omega)
  generalize hl3 : L2 ++ onePo 2 c (assV (b + x) (r + y) - assV b r) = L3 at HC3 ⊢
  have n3 : L3.length ≤ 3 := by rw [← hl3]; have := onePo_len 2 c (assV (b + x) (r + y) - assV b r); rw [List.length_append]; omega
  have HC4 : Hid (∀ W v, Sh w0 W p c L3 v → Calls Try.prog 30 #[.pointer (some ⟨p, 0, none⟩), .int .i64 3, .int .i64 r, .int .i64 (r + y)] W (ShR w0 W p c (L3 ++ onePo 3 c (r - (r + y))))) := Lib.hid fun W v q => ntcredit_any q (by omega) 3 _ _ (by omega) (by omega) (by omega) (by omega)
  generalize L3 ++ onePo 3 c (r - (r + y)) = L4 at HC4 ⊢
  unfold ShR at HC1 HC2 HC3 HC4
  generalize liaV b r = l1 at HS1 HC2
  generalize assV b r = a1 at HS1 HC3
  generalize liaV (b + x) (r + y) = l2 at HS2 HC2
  generalize assV (b + x) (r + y) = a2 at HS2 HC3
  generalize b + x = bx at HS2 HC1 ⊢
  generalize r + y = ry at HS2 HC4 ⊢
  clear h hb hb1 hr hr1 hx hx1 hy hy1 s1 s2 hl1 hl2 hl3 n1 n2 n3
  obtain ⟨W0, hW0⟩ : ∃ W0, W0 = (w.alloc (.cells #[.int .i64 b, .int .i64 r] 43)).alloc (.cells #[.int .i64 bx, .int .i64 ry] 43) := ⟨_, rfl⟩
  have HB0 : Hid (Below w.heap.size w W0) := by rw [hW0]; exact Lib.hid (up2 (boxed _ _) (boxed _ _))
  have hX := Lib.hid ((Has.fresh w 43 #[.int .i64 b, .int .i64 r]).more (.cells #[.int .i64 bx, .int .i64 ry] 43))
  have hY := Lib.hid (Has.fresh (w.alloc (.cells #[.int .i64 b, .int .i64 r] 43)) 43 #[.int .i64 bx, .int .i64 ry])
  rw [← hW0] at hX hY
  simp only [World.size_alloc] at hY
  go_enter Try.func28, Try.ntmps28
  go_wp2_with fail
  rw [← hW0]
  refine (HS1.out _).mono ?_
  rintro e w1 ⟨rfl, hq⟩
  have B1 := Lib.hid (up2 HB0.out hq)
  have X1 := Lib.hid (hX.out.up hq)
  have Y1 := Lib.hid (hY.out.up hq)
  have x0 := X1.out.cell 0
  have y0 := Y1.out.cell 0
  have y1 := Y1.out.cell 1
  simp at x0 y0 y1
  clear hq
  go_wp2_with fail
  refine (HS2.out _).mono ?_
  rintro e w2 ⟨rfl, hq⟩
  have B2 := Lib.hid (up2 B1.out hq)
  have X2 := Lib.hid (X1.out.up hq)
  have Y2 := Lib.hid (Y1.out.up hq)
  have x0 := X2.out.cell 0
  have x1 := X2.out.cell 1
  have y0 := Y2.out.cell 0
  have y1 := Y2.out.cell 1
  simp at x0 x1 y0 y1
  clear hq
  go_wp2_with fail
  refine (HC1.out _ B2.out).mono ?_
  rintro e w3 ⟨rfl, ⟨v3, h3⟩, o3⟩
  have H3 := Lib.hid h3
  have X3 := Lib.hid (o3 _ _ _ X2.out (by decide) (by decide))
  have Y3 := Lib.hid (o3 _ _ _ Y2.out (by decide) (by decide))
  have O3 := Lib.hid ((Oth17.of B2.out).trans o3)
  clear h3 o3 x0 x1 y0 y1
  go_wp2_with fail
  refine (HC2.out _ _ H3.out).mono ?_
  rintro e w4 ⟨rfl, ⟨v4, h4⟩, o4⟩
  have H4 := Lib.hid h4
  have X4 := Lib.hid (o4 _ _ _ X3.out (by decide) (by decide))
  have Y4 := Lib.hid (o4 _ _ _ Y3.out (by decide) (by decide))
  have O4 := Lib.hid (O3.out.trans o4)
  clear h4 o4
  go_wp2_with fail
  refine (HC3.out _ _ H4.out).mono ?_
  rintro e w5 ⟨rfl, ⟨v5, h5⟩, o5⟩
  have H5 := Lib.hid h5
  have X5 := Lib.hid (o5 _ _ _ X4.out (by decide) (by decide))
  have Y5 := Lib.hid (o5 _ _ _ Y4.out (by decide) (by decide))
  have O5 := Lib.hid (O4.out.trans o5)
  have x1 := X5.out.cell 1
  have y1 := Y5.out.cell 1
  simp at x1 y1
  clear h5 o5
  go_wp2_with fail
  refine (HC4.out _ _ H5.out).mono ?_
  rintro e w6 ⟨rfl, h6, o6⟩
  have H6 := Lib.hid h6
  have O6 := Lib.hid (O5.out.trans o6)
  clear h6 o6 x1 y1
  go_wp2_with fail
  go_end0
  exact ⟨rfl, H6.out, O6.out⟩
end
end Go.Proofs.Ytiaocahcdbikhaa
