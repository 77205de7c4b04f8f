/- NetMoves: its core, walked. -/
import Derived.Test.YtiaocahcdbikhaaNtV
import Derived.Test.YtiaocahcdbikhaaNtX
namespace Go.Proofs.Ytiaocahcdbikhaa
open Go.RowKit

/-- postings that are told, in a row of the call's own -/
def NtOw (w : World) (L : List Po) (e : Ending) (w' : World) : Prop := ∃ a c, e = .returned (.tuple #[.slice a L.length c, .int .i64 0]) ∧ w'.ownsRow w.heap.size 35 3 (.slice a L.length c) L.length (flat L) ∧ (a = none → c = 0) ∧ PsA w' a L ∧ Below w.heap.size w w'
theorem NtR.ways {w w' : World} {E : Int} {L : List Po} {e : Ending} (h : NtR w E L e w') : (E ≠ 0 ∧ e = .returned (.tuple #[.slice none 0 0, .int .i64 E]) ∧ Below w.heap.size w w') ∨ (E = 0 ∧ NtOw w L e w') := by
  obtain ⟨hb, ⟨q, he⟩ | ⟨q, a, c, he, ho⟩⟩ := h
  · exact .inl ⟨q, he, hb⟩
  · obtain ⟨a', c', z, hp, _, hz⟩ := own_psa ho
    injection z with z1 z2 z3
    subst z1; subst z3
    exact .inr ⟨q, a, c, he, ho, fun e => (hz e).2, hp, hb⟩
set_option maxRecDepth 100000 in
set_option maxHeartbeats 4000000 in
theorem moves17_law (K : NtK) (A : Aw17) (b r x y : Int) (w : World) (hb : Am b) (hr : Am r) (hx : Am x) (hy : Am y) :
    Calls Try.prog 5 #[.int .i64 b, .int .i64 r, .int .i64 x, .int .i64 y] w fun e w' => e = .returned (.bool true) ∧ Below w.heap.size w w' := by
  have HAw := Lib.hid A
  have HBl := Lib.hid (fun (W : World) => (K.bill W 3 b r x hb hr hx).mono fun _ _ z => z.ways)
  have HA1 := Lib.hid (fun (W : World) => add_any b x W hb.1 hb.2 hx.1 hx.2)
  have HA2 := Lib.hid (fun (W : World) => add_any r y W hr.1 hr.2 hy.1 hy.2)
  by_cases q1 : ntE 3 b r x 0 = 0
  rotate_left
  · generalize ntE 3 b r x 0 = E1 at HBl q1
    generalize ntL 3 b r x 0 = L1 at HBl
    have q1' : (E1 != 0) = true := by simpa using q1
    have q1'' : (E1 == 0) = false := by simpa using q1
    have HQ1 := Lib.hid q1
    generalize tellV (b + x) = tv at HA1
    generalize tellE (b + x) = te at HA1
    clear K A hb hr hx hy q1
    go_enter Try.func5, Try.ntmps5
    go_wp2_with fail
    refine (HAw.out _).mono ?_
    rintro e w1 ⟨rfl, hb1⟩
    have B1 := Lib.hid hb1
    clear hb1
    go_wp2_with fail
    refine (HBl.out _).mono ?_
    rintro e w2 (⟨_, rfl, hb2⟩ | ⟨q, _⟩)
    rotate_left
    · exact absurd q HQ1.out
    have B2 := Lib.hid (up2 B1.out hb2)
    clear hb2
    go_wp2_with fail
    refine (HA1.out _).mono ?_
    rintro e w3 ⟨rfl, hb3⟩
    have B3 := Lib.hid (up2 B2.out hb3)
    clear hb3
    go_wp2_with fail
    go_ret
    exact ⟨rfl, B3.out⟩
  have k1 := nt_ok q1
  have k1b := k1.b2
  have k1c := k1.b3
  have hbx : Am (b + x) := by unfold Am; omega
  have HEr := Lib.hid (fun (W : World) => (K.earn W 3 (b + x) r y hbx hr hy).mono fun _ _ z => z.ways)
  rw [tellV18 hbx, tellE18 hbx] at HA1
  by_cases q2 : ntE 3 (b + x) r 0 y = 0
  rotate_left
  · generalize ntE 3 (b + x) r 0 y = E2 at HEr q2
    generalize ntL 3 (b + x) r 0 y = L2 at HEr
    rw [q1] at HBl
    generalize ntL 3 b r x 0 = L1 at HBl
    have q2' : (E2 != 0) = true := by simpa using q2
    have q2'' : (E2 == 0) = false := by simpa using q2
    have HQ2 := Lib.hid q2
    generalize tellV (r + y) = tv at HA2
    generalize tellE (r + y) = te at HA2
    generalize b + x = bx at HA1 HEr
    clear K A hb hr hx hy q1 q2 k1 k1b k1c hbx
    unfold NtOw at HBl
    go_enter Try.func5, Try.ntmps5
    go_wp2_with fail
    refine (HAw.out _).mono ?_
    rintro e w1 ⟨rfl, hb1⟩
    have B1 := Lib.hid hb1
    clear hb1
    go_wp2_with fail
    refine (HBl.out _).mono ?_
    rintro e w2 (⟨q, _⟩ | ⟨_, a2, c2, rfl, _, _, _, hb2⟩)
    · exact absurd rfl q
    have B2 := Lib.hid (up2 B1.out hb2)
    clear hb2
    go_wp2_with fail
    refine (HA1.out _).mono ?_
    rintro e w3 ⟨rfl, hb3⟩
    have B3 := Lib.hid (up2 B2.out hb3)
    clear hb3
    go_wp2_with fail
    refine (HEr.out _).mono ?_
    rintro e w4 (⟨_, rfl, hb4⟩ | ⟨q, _⟩)
    rotate_left
    · exact absurd q HQ2.out
    have B4 := Lib.hid (up2 B3.out hb4)
    clear hb4
    go_wp2_with fail
    refine (HA2.out _).mono ?_
    rintro e w5 ⟨rfl, hb5⟩
    have B5 := Lib.hid (up2 B4.out hb5)
    clear hb5
    go_wp2_with fail
    go_ret
    exact ⟨rfl, B5.out⟩
  have k2 := nt_ok q2
  have k2b := k2.r2
  have k2c := k2.r3
  have k1r := k1.r0
  have k1z := k1.b0
  unfold Am at hb hr
  have hry : Am (r + y) := by unfold Am; omega
  rw [tellV18 hry, tellE18 hry] at HA2
  rw [q1] at HBl
  rw [q2] at HEr
  have HS1 := Lib.hid (fun (W : World) => K.sides W b r hb hr)
  have HS2 := Lib.hid (fun (W : World) => K.sides W (b + x) (r + y) hbx hry)
  have s1 := sides_bd k1z hb.2 k1r hr.2
  have s2 := sides_bd k1b k1c k2b k2c
  have e1 : sidE b r = 0 := by unfold sidE; rw [if_neg (by omega)]
  have e2 : sidE (b + x) (r + y) = 0 := by unfold sidE; rw [if_neg (by omega)]
  unfold sidL sidA at HS1 HS2
  rw [e1, if_pos rfl, if_pos rfl] at HS1
  rw [e2, if_pos rfl, if_pos rfl] at HS2
  have m1 := nt_moves 3 b r x 0
  have m2 := nt_moves 3 (b + x) r 0 y
  have hL1 : (ntL 3 b r x 0).length ≤ 4 := nt_len _ _ _ _ _
  have hL2 : (ntL 3 (b + x) r 0 y).length ≤ 4 := nt_len _ _ _ _ _
  have n1 := nt_each k1 hb.2 hr.2
  have n2 := nt_each k2 k1c hr.2
  simp only [Int.add_zero, Int.neg_zero] at m1 m2
  have HEach : Hid (∀ p ∈ ntL 3 b r x 0 ++ ntL 3 (b + x) r 0 y, p.a = 0 ∨ p.a = 1 ∨ p.a = 2 ∨ p.a = 3) := Lib.hid fun p hp => by
    rcases List.mem_append.1 hp with hp | hp
    · have := n1 p hp; omega
    · have := n2 p hp; omega
  have HEnd : Hid (mvW 0 0 (ntL 3 b r x 0 ++ ntL 3 (b + x) r 0 y) = x ∧ mvW (-liaV b r) 1 (ntL 3 b r x 0 ++ ntL 3 (b + x) r 0 y) = -liaV (b + x) (r + y) ∧ mvW (assV b r) 2 (ntL 3 b r x 0 ++ ntL 3 (b + x) r 0 y) = assV (b + x) (r + y) ∧ mvW (-r) 3 (ntL 3 b r x 0 ++ ntL 3 (b + x) r 0 y) = -(r + y)) := Lib.hid (by
    unfold mvW
    simp only [movPo_app]
    rw [m1.1, m1.2.1, m1.2.2.1, m1.2.2.2, m2.1, m2.2.1, m2.2.2.1, m2.2.2.2]
    refine ⟨?_, ?_, ?_, ?_⟩
    · rw [show (0 : Int) + (x + 0) = x by omega]; exact IntWalk.i64_in _ hx
    · rw [show -liaV b r + (-(liaV (b + x) r - liaV b r) + -(liaV (b + x) (r + y) - liaV (b + x) r)) = -liaV (b + x) (r + y) by omega]; exact IntWalk.i64_in _ (by omega)
    · rw [show assV b r + (assV (b + x) r - assV b r + (assV (b + x) (r + y) - assV (b + x) r)) = assV (b + x) (r + y) by omega]; exact IntWalk.i64_in _ (by omega)
    · rw [show -r + (0 + -y) = -(r + y) by omega]; exact IntWalk.i64_in _ (by omega))
  have HStart : Hid (mvW 0 0 [] = 0 ∧ mvW (-liaV b r) 1 [] = -liaV b r ∧ mvW (assV b r) 2 [] = assV b r ∧ mvW (-r) 3 [] = -r) := Lib.hid ⟨mvW_nil (by unfold Am; omega), mvW_nil (by unfold Am; omega), mvW_nil (by unfold Am; omega), mvW_nil (by unfold Am; omega)⟩
  have w1 : IntKind.i64.wrap (-liaV b r) = -liaV b r := IntWalk.i64_in _ (by omega)
  have w2 : IntKind.i64.wrap (-r) = -r := IntWalk.i64_in _ (by omega)
  have w3 : IntKind.i64.wrap (-liaV (b + x) (r + y)) = -liaV (b + x) (r + y) := IntWalk.i64_in _ (by omega)
  have w4 : IntKind.i64.wrap (-(r + y)) = -(r + y) := IntWalk.i64_in _ (by omega)
  generalize ntL 3 b r x 0 = L1 at HBl HEach HEnd hL1
  generalize ntL 3 (b + x) r 0 y = L2 at HEr HEach HEnd hL2
  clear K A hb hr hx hy q1 q2 k1 k2 k1b k1c k2b k2c k1r k1z hbx hry s1 s2 e1 e2 m1 m2 n1 n2
  generalize liaV b r = la at HS1 HEnd HStart w1
  generalize assV b r = sa at HS1 HEnd HStart
  generalize liaV (b + x) (r + y) = lb at HS2 HEnd w3
  generalize assV (b + x) (r + y) = sb at HS2 HEnd
  generalize b + x = bx at HA1 HEr HS2
  generalize r + y = ry at HA2 HS2 HEnd w4
  unfold NtOw at HBl HEr
  have HL1 := Lib.hid hL1
  have HL2 := Lib.hid hL2
  clear hL1 hL2
  go_enter Try.func5, Try.ntmps5
  go_wp2_with fail
  refine (HAw.out _).mono ?_
  rintro e w1' ⟨rfl, hb1⟩
  have B1 := Lib.hid hb1
  clear hb1
  go_wp2_with fail
  refine (HBl.out _).mono ?_
  rintro e w2' (⟨q, _⟩ | ⟨_, a2, c2, rfl, ho2, _, _, hb2⟩)
  · exact absurd rfl q
  have B2 := Lib.hid (up2 B1.out hb2)
  have O2 := Lib.hid ho2
  have N2 := Lib.hid hb2.size
  clear hb2 ho2
  go_wp2_with fail
  refine (HA1.out _).mono ?_
  rintro e w3' ⟨rfl, hb3⟩
  have B3 := Lib.hid (up2 B2.out hb3)
  have O3 := Lib.hid (own_up18 O2.out hb3)
  have N3 := Lib.hid (Nat.le_trans N2.out hb3.size)
  clear hb3
  go_wp2_with fail
  refine (HEr.out _).mono ?_
  rintro e w4' (⟨q, _⟩ | ⟨_, a4, c4, rfl, _, hc4, hp4, hb4⟩)
  · exact absurd rfl q
  have B4 := Lib.hid (up2 B3.out hb4)
  have O4 := Lib.hid (own_up18 O3.out hb4)
  have P4 := Lib.hid hp4
  have C4 := Lib.hid hc4
  have N4 := Lib.hid (Nat.le_trans N3.out hb4.size)
  clear hb4 hp4 hc4
  go_wp2_with fail
  refine (HA2.out _).mono ?_
  rintro e w5' ⟨rfl, hb5⟩
  have B5 := Lib.hid (up2 B4.out hb5)
  have O5 := Lib.hid (own_up18 O4.out hb5)
  have P5 := Lib.hid (P4.out.up hb5)
  have N5 := Lib.hid (Nat.le_trans N4.out hb5.size)
  clear hb5
  go_wp2_with fail
  refine (HS1.out _).mono ?_
  rintro e w6' ⟨rfl, hb6⟩
  have B6 := Lib.hid (up2 B5.out hb6)
  have O6 := Lib.hid (own_up18 O5.out hb6)
  have P6 := Lib.hid (P5.out.up hb6)
  have N6 := Lib.hid (Nat.le_trans N5.out hb6.size)
  clear hb6
  go_wp2_with fail
  refine (HS2.out _).mono ?_
  rintro e w7' ⟨rfl, hb7⟩
  have B7 := Lib.hid (up2 B6.out hb7)
  have O7 := Lib.hid (own_up18 O6.out hb7)
  have P7 := Lib.hid (P6.out.up hb7)
  have N7 := Lib.hid (Nat.le_trans N6.out hb7.size)
  clear hb7
  obtain ⟨W8, hW8⟩ : ∃ W8, W8 = w7'.alloc (.cells #[.int .i64 0, .int .i64 (-la), .int .i64 sa, .int .i64 (-r)] 39) := ⟨_, rfl⟩
  have hb8 : Below w7'.heap.size w7' W8 := by rw [hW8]; exact boxed _ _
  have hx8 : Has W8 w7'.heap.size 39 #[.int .i64 0, .int .i64 (-la), .int .i64 sa, .int .i64 (-r)] := by rw [hW8]; exact Has.fresh _ _ _
  obtain ⟨a9, c9, w9, hr9, hp9, hx9, hb9⟩ := app_posts (own_up18 O7.out hb8) (Nat.le_trans N7.out hb8.size) (by have := HL1.out; have := HL2.out; omega) a4 c4 (P7.out.up hb8) C4.out hx8
  have B9 := Lib.hid (hb9 w (up2 B7.out hb8) B1.out.size)
  have HR := Lib.hid hr9
  have P9 := Lib.hid (own_low18 hp9 (Nat.zero_le _))
  have X9 := Lib.hid hx9
  have HW8 := Lib.hid hW8
  obtain ⟨at_, hat⟩ : ∃ g, g = w7'.heap.size := ⟨_, rfl⟩
  rw [← hat] at X9
  have HAt := Lib.hid hat
  have HA0 : Hid (w.heap.size ≤ at_) := Lib.hid (by rw [hat]; exact B7.out.size)
  obtain ⟨n1, hn1⟩ : ∃ n, n = L1.length := ⟨_, rfl⟩
  obtain ⟨n2, hn2⟩ : ∃ n, n = L2.length := ⟨_, rfl⟩
  rw [← hn1, ← hn2] at HR P9
  have hn8 : n1 + n2 ≤ 8 := by rw [hn1, hn2]; have := HL1.out; have := HL2.out; omega
  have hnl : Hid ((L1 ++ L2).length = n1 + n2) := Lib.hid (by rw [List.length_append, hn1, hn2])
  obtain ⟨n, hn⟩ : ∃ n, n = n1 + n2 := ⟨_, rfl⟩
  rw [← hn] at HR hn8 hnl P9
  have HN1 := Lib.hid hn1
  have HN2 := Lib.hid hn2
  rw [← hn1, ← hn2]
  clear hb8 hx8 hr9 hp9 hx9 hb9 hW8 hat hn hn1 hn2
  obtain ⟨L, hL⟩ : ∃ L, L = L1 ++ L2 := ⟨_, rfl⟩
  rw [← hL] at HEach HEnd P9 hnl
  have HSt : Hid (Has w9 at_ 39 #[.int .i64 (mvW 0 0 (L.take 0)), .int .i64 (mvW (-la) 1 (L.take 0)), .int .i64 (mvW sa 2 (L.take 0)), .int .i64 (mvW (-r) 3 (L.take 0))]) := Lib.hid (by
    obtain ⟨z0, z1, z2, z3⟩ := HStart.out
    rw [List.take_zero, z0, z1, z2, z3]; exact X9.out)
  clear hL
  go_wp2_with (first | (at_builtin; rw [← HW8.out]; refine wpList_run (o := ⟨some 92, _, _, _, _, _⟩) rfl (.tmp 90) (.tmp 91) 26 rfl _ _ rfl rfl (S := fun u q => u = .slice a9 n c9 ∧ q = w9) ⟨_, w9, HR.out, rfl, rfl⟩ ?_; rintro u q ⟨rfl, rfl⟩) | fail)
  rw [← HAt.out]
  go_loopw [94] (fun v wr => ∃ k : Nat, k ≤ n ∧ v = .int .i64 (k : Int) ∧ Below w.heap.size w wr ∧ wr.ownsRow 0 35 3 (.slice a9 n c9) n (flat L) ∧ Has wr at_ 39 #[.int .i64 (mvW 0 0 (L.take k)), .int .i64 (mvW (-la) 1 (L.take k)), .int .i64 (mvW sa 2 (L.take k)), .int .i64 (mvW (-r) 3 (L.take k))]) (fun v _ => n - (intOf v).toNat)
  case atStart => exact ⟨0, Nat.zero_le _, rfl, B9.out, P9.out, HSt.out⟩
  case round =>
    obtain ⟨k, hk, rfl, hb, hp, hq⟩ := hrel
    have HB := Lib.hid hb
    have HP := Lib.hid hp
    have HQ := Lib.hid hq
    clear hb hp hq
    by_cases hlt : k < n
    · obtain ⟨p, hp⟩ : ∃ p, L[k]? = some p := ⟨L[k]'(by rw [hnl.out]; exact hlt), List.getElem?_eq_getElem _⟩
      have hps := own_ps18 HP.out
      obtain ⟨b1, o1, ha, z0, z1, z2⟩ := hps.at hp
      subst ha
      have hst := movPo_take hp
      have hea := HEach.out p (List.mem_of_getElem? hp)
      have hk0 : (0 : Int) ≤ (k : Int) := by omega
      have hk1 : (k : Int) < (n : Int) := by omega
      have e1 : IntKind.i64.wrap ((k : Int) + 1) = (k : Int) + 1 := IntWalk.i64_in _ (by omega)
      have t0 := mvW_add 0 0 (L.take k) p
      have t1 := mvW_add (-la) 1 (L.take k) p
      have t2 := mvW_add sa 2 (L.take k) p
      have t3 := mvW_add (-r) 3 (L.take k) p
      rw [← hst] at t0 t1 t2 t3
      have hF := HQ.out
      have c0 := hF.cell 0
      have c1 := hF.cell 1
      have c2' := hF.cell 2
      have c3 := hF.cell 3
      have f0 := hF.free 0
      have f1 := hF.free 1
      have f2 := hF.free 2
      have f3 := hF.free 3
      have hla := hF.lt
      simp at c0 c1 c2' c3
      have HF := HQ
      generalize mvW 0 0 (L.take k) = v0 at t0 c0 HF
      generalize mvW (-la) 1 (L.take k) = v1 at t1 c1 HF
      generalize mvW sa 2 (L.take k) = v2 at t2 c2' HF
      generalize mvW (-r) 3 (L.take k) = v3 at t3 c3 HF
      have HSt4 : Hid (mvW 0 0 (L.take (k + 1)) = (if p.a = 0 then IntKind.i64.wrap (v0 + p.m) else v0) ∧ mvW (-la) 1 (L.take (k + 1)) = (if p.a = 1 then IntKind.i64.wrap (v1 + p.m) else v1) ∧ mvW sa 2 (L.take (k + 1)) = (if p.a = 2 then IntKind.i64.wrap (v2 + p.m) else v2) ∧ mvW (-r) 3 (L.take (k + 1)) = (if p.a = 3 then IntKind.i64.wrap (v3 + p.m) else v3)) := Lib.hid ⟨t0, t1, t2, t3⟩
      generalize p.a = pa at z0 hea HSt4
      generalize p.m = pm at z2 HSt4
      generalize p.c = pc at z1
      clear hp hps hst t0 t1 t2 t3 hF
      have HSz := Lib.hid (fun (j : Nat) (u : Value) => own_put18 (j := j) (u := u) HP.out HF.out)
      have HHs := Lib.hid (fun (j : Nat) (u : Value) => HF.out.put j u)
      have HBs := Lib.hid (fun (j : Nat) (u : Value) => HB.out.setCell HA0.out (p := ⟨at_, j, none⟩) u)
      rcases hea with rfl | rfl | rfl | rfl
      · go_wp2_with fail
        go_region_with (fail)
        all_goals
          go_wp2_with fail
          refine ⟨⟨k + 1, by omega, by go_num, (up2 (HBs.out 0 _) (boxed _ _)).drew, own_up18 (HSz.out 0 _) (boxed _ _).drew, ?_⟩, by simp [intOf]; omega⟩
          obtain ⟨g0, g1, g2, g3⟩ := HSt4.out
          rw [g0, g1, g2, g3]
          have := (HHs.out 0 (.int .i64 (IntKind.i64.wrap (v0 + pm)))).up (boxed _ (.cells #[.int .i64 0, .int .i64 pc, .int .i64 pm] 35)).drew
          simpa [IntWalk.i64_left] using this
      · go_wp2_with fail
        go_region_with (fail)
        all_goals
          go_wp2_with fail
          refine ⟨⟨k + 1, by omega, by go_num, (up2 (HBs.out 1 _) (boxed _ _)).drew, own_up18 (HSz.out 1 _) (boxed _ _).drew, ?_⟩, by simp [intOf]; omega⟩
          obtain ⟨g0, g1, g2, g3⟩ := HSt4.out
          rw [g0, g1, g2, g3]
          have := (HHs.out 1 (.int .i64 (IntKind.i64.wrap (v1 + pm)))).up (boxed _ (.cells #[.int .i64 1, .int .i64 pc, .int .i64 pm] 35)).drew
          simpa [IntWalk.i64_left] using this
      · go_wp2_with fail
        go_region_with (fail)
        all_goals
          go_wp2_with fail
          refine ⟨⟨k + 1, by omega, by go_num, (up2 (HBs.out 2 _) (boxed _ _)).drew, own_up18 (HSz.out 2 _) (boxed _ _).drew, ?_⟩, by simp [intOf]; omega⟩
          obtain ⟨g0, g1, g2, g3⟩ := HSt4.out
          rw [g0, g1, g2, g3]
          have := (HHs.out 2 (.int .i64 (IntKind.i64.wrap (v2 + pm)))).up (boxed _ (.cells #[.int .i64 2, .int .i64 pc, .int .i64 pm] 35)).drew
          simpa [IntWalk.i64_left] using this
      · go_wp2_with fail
        go_region_with (fail)
        all_goals
          go_wp2_with fail
          refine ⟨⟨k + 1, by omega, by go_num, (up2 (HBs.out 3 _) (boxed _ _)).drew, own_up18 (HSz.out 3 _) (boxed _ _).drew, ?_⟩, by simp [intOf]; omega⟩
          obtain ⟨g0, g1, g2, g3⟩ := HSt4.out
          rw [g0, g1, g2, g3]
          have := (HHs.out 3 (.int .i64 (IntKind.i64.wrap (v3 + pm)))).up (boxed _ (.cells #[.int .i64 3, .int .i64 pc, .int .i64 pm] 35)).drew
          simpa [IntWalk.i64_left] using this
    · obtain rfl : k = n := by omega
      have hz : L.take k = L := List.take_of_length_le (by rw [hnl.out]; exact Nat.le_refl _)
      have hF := HQ.out
      obtain ⟨g0, g1, g2, g3⟩ := HEnd.out
      rw [hz, g0, g1, g2, g3] at hF
      have c0 := hF.cell 0
      have c1 := hF.cell 1
      have c2' := hF.cell 2
      have c3 := hF.cell 3
      simp at c0 c1 c2' c3
      have heq := a4_same x (-lb) sb (-ry) wr
      clear hz hF g0 g1 g2 g3
      go_wp2_with fail
      go_ret
      exact ⟨rfl, HB.out⟩
end Go.Proofs.Ytiaocahcdbikhaa
