/- The core of StoreKeeps. -/
import Derived.Test.YtdlhenpocdlomaaStKa
namespace Go.Proofs.Ytdlhenpocdlomaa
open Go.RowKit

set_option maxRecDepth 100000 in
set_option maxHeartbeats 8000000 in
theorem kz_yes (n : Int) (a : Option Addr) (len cap : Nat) (L : Nat → OpD) (x : OpD) (w : World) (h0 : 3 ≤ n) (h1 : n ≤ 40) (h2 : len ≤ 40) (h3 : x.x.size ≤ 100) (hL : Ops w a len L) :
    Calls Try.prog 4 #[.int .i64 n, .slice a len cap, .agg x.cells] w fun e w' => e = .returned (.bool true) ∧ Below w.heap.size w w' := by
  have h2' : (len : Int) ≤ 40 := by omega
  have h3' : (x.x.size : Int) ≤ 100 := by omega
  have hL' := Lib.hid hL
  clear hL
  have HX0 : Has (w.alloc (.cells x.cells 32)) w.heap.size 32 x.cells := Has.fresh w 32 _
  unfold OpD.cells opv
  go_enter Try.func4, Try.ntmps4
  go_wp2_with fail
  refine (st_awake _).mono ?_
  rintro e w1 ⟨rfl, hb⟩
  have c4 : w1.cell? ⟨w.heap.size, 4, none⟩ = some (.string x.x) := kcell hb (by simp [go_sem])
  have HB := Lib.hid (up2 (boxed _ _) hb)
  have HX := Lib.hid (HX0.up hb)
  clear hb HX0
  go_wp2_with fail
  refine (new_at w1 n h0 (by omega)).mono ?_
  rintro e w2 ⟨p, b, rfl, ha, lp, lb, hb⟩
  have HA := Lib.hid ha
  have LP := Lib.hid (show w.heap.size ≤ p from Nat.le_trans HB.out.size lp)
  have LB := Lib.hid (show w.heap.size ≤ b from Nat.le_trans HB.out.size lb)
  have HB2 := Lib.hid (up2 HB.out hb)
  have HX2 := Lib.hid (HX.out.up hb)
  clear ha lp lb hb HB HX c4
  obtain ⟨N, hN⟩ : ∃ N : Nat, n = (N : Int) := ⟨n.toNat, by omega⟩
  subst hN
  rw [Int.toNat_natCast] at HA
  obtain ⟨xb, hxb⟩ : ∃ xb, xb = w.heap.size := ⟨_, rfl⟩
  rw [← hxb] at HX2
  go_wp2_with fail
  rw [← hxb]
  have HXB := Lib.hid hxb
  clear hxb
  go_loopw [47] (fun i wr => ∃ k : Nat, k ≤ len ∧ i = .int .i64 (k : Int) ∧ ∃ s, s.n = N ∧ At wr p b s (k : Int) ∧ Has wr xb 32 x.cells ∧ Below w.heap.size w wr) (fun i _ => len - (intOf i).toNat)
  case atStart => exact ⟨0, by omega, rfl, _, rfl, HA.out, HX2.out, HB2.out⟩
  case round =>
    obtain ⟨k, hk, rfl, s, hsn, ha, hx, hb⟩ := hrel
    have KN := Lib.hid hsn
    have KA := Lib.hid ha
    have KX := Lib.hid hx
    have KB := Lib.hid hb
    clear ha hx hb hsn
    by_cases hlt : k < len
    · obtain ⟨bb, off, rfl, hlay, hn⟩ := hL'.out k hlt
      obtain ⟨o, ho⟩ : ∃ o, o = L k := ⟨_, rfl⟩
      rw [← ho] at hlay hn
      have hlay' := hlay.up KB.out
      have HN := Lib.hid hn
      clear hlay ho hn
      obtain ⟨e0, e1, e2, e3, e4, e5⟩ := hlay'
      have i1 : (k : Int) < (len : Int) := by omega
      have H0 : Uno wr w.heap.size p b wr.heap.size xb o x s (k : Int) (wr.alloc (.cells o.cells 32)) :=
        ⟨KA.out.up (boxed _ _), Has.fresh wr 32 _, KX.out.more _, (Below.refl _ _).alloc KB.out.size _, LP.out, LB.out, by have := KB.out.size; simp; omega⟩
      obtain ⟨W0, hW⟩ : ∃ W0, W0 = wr.alloc (.cells #[.int .i64 o.d, .int .i64 o.a, .int .i64 o.n, .int .i64 o.t, .string o.x, .bool o.f] 32) := ⟨_, rfl⟩
      rw [show wr.alloc (.cells o.cells 32) = W0 from hW.symm] at H0
      obtain ⟨bx, hbx⟩ : ∃ bx, bx = wr.heap.size := ⟨_, rfl⟩
      rw [← hbx] at H0
      have HH := Lib.hid H0
      have HW := Lib.hid hW
      have HBX := Lib.hid hbx
      clear H0 hW hbx
      by_cases d0 : o.d = 0
      · have d1 : (o.d == 0) = true := by rw [d0]; rfl
        clear d0
        go_wp2_with fail
        rw [← HW.out, ← HBX.out]
        have HS := HH.out.six
        unfold Six at HS
        obtain ⟨e0, e1, e2, e3, e4, e5⟩ := HS
        clear e0 e1 e2 e3 e4 e5
        have HS := HH.out.six
        unfold Six at HS
        obtain ⟨e0, e1, e2, e3, e4, e5⟩ := HS
        go_region_held3 (fun w' => w'.cell? ⟨bx, 0, none⟩ = some (.int .i64 o.d) ∧ w'.cell? ⟨bx, 1, none⟩ = some (.int .i64 o.a) ∧ w'.cell? ⟨bx, 2, none⟩ = some (.int .i64 o.n) ∧ w'.cell? ⟨bx, 3, none⟩ = some (.int .i64 o.t) ∧ w'.cell? ⟨bx, 4, none⟩ = some (.string o.x) ∧ w'.cell? ⟨bx, 5, none⟩ = some (.bool o.f))
          ((change Six bx o _; with_reducible (first | exact HH.out.drew.six | exact k1.out.six | exact k2.out.six)))
          (first | (go_at_call 11; ((with_reducible refine HH.out.drew.block.mono ?_); rintro e w5 ⟨rfl, g1⟩; have k1 := Lib.hid g1; clear g1)) | (go_at_call 10; ((with_reducible refine (k1.out.write (by omega) _).mono ?_); rintro e w6 ⟨rfl, g2⟩; have k2 := Lib.hid g2; clear g2)))
        have K9 := Lib.hid k2.out
        have SN := (wr_n s o.a (blk o.x o.f)).trans KN.out
        clear e0 e1 e2 e3 e4 e5
        go_wp2_with fail
        go_roundw
        case rel => exact ⟨k + 1, by omega, by go_num, _, SN, ⟨K9.out.at_.st, K9.out.at_.fine.more (by omega)⟩, K9.out.xp, KB.out.trans K9.out.bel⟩
        case measure => simp [intOf]; omega
      · have d1 : (o.d == 0) = false := by simpa using d0
        clear d0
        by_cases d2 : o.d = 1
        · have d3 : (o.d == 1) = true := by rw [d2]; rfl
          clear d2
          go_wp2_with fail
          rw [← HW.out, ← HBX.out]
          have HS := HH.out.six
          unfold Six at HS
          obtain ⟨e0, e1, e2, e3, e4, e5⟩ := HS
          refine (HH.out.fuse HN.out).mono ?_
          rintro e w5 ⟨rfl, g1⟩
          have k2 := Lib.hid g1
          clear g1
          have K9 := Lib.hid k2.out
          have SN := (fu_n s o.n o.t).trans KN.out
          clear e0 e1 e2 e3 e4 e5
          go_wp2_with fail
          go_roundw
          case rel => exact ⟨k + 1, by omega, by go_num, _, SN, ⟨K9.out.at_.st, K9.out.at_.fine.more (by omega)⟩, K9.out.xp, KB.out.trans K9.out.bel⟩
          case measure => simp [intOf]; omega
        · have d3 : (o.d == 1) = false := by simpa using d2
          clear d2
          by_cases d4 : o.d = 2
          · have d5 : (o.d == 2) = true := by rw [d4]; rfl
            clear d4
            go_wp2_with fail
            rw [← HW.out, ← HBX.out]
            have HS := HH.out.six
            unfold Six at HS
            obtain ⟨e0, e1, e2, e3, e4, e5⟩ := HS
            refine HH.out.restart.mono ?_
            rintro e w5 ⟨rfl, g1⟩
            have k2 := Lib.hid g1
            clear g1
            have K9 := Lib.hid k2.out
            have SN : (reS s).n = N := KN.out
            clear e0 e1 e2 e3 e4 e5
            go_wp2_with fail
            go_roundw
            case rel => exact ⟨k + 1, by omega, by go_num, _, SN, ⟨K9.out.at_.st, K9.out.at_.fine.more (by omega)⟩, K9.out.xp, KB.out.trans K9.out.bel⟩
            case measure => simp [intOf]; omega
          · have d5 : (o.d == 2) = false := by simpa using d4
            clear d4
            go_wp2_with fail
            rw [← HW.out]
            have SN := KN.out
            go_roundw
            case rel => exact ⟨k + 1, by omega, by go_num, _, SN, ⟨HH.out.at_.st, HH.out.at_.fine.more (by omega)⟩, HH.out.xp, KB.out.trans HH.out.bel⟩
            case measure => simp [intOf]; omega
    · obtain rfl : k = len := by omega
      clear HA HX2 HB2 hlt hk
      go_wp2_with fail
      obtain ⟨wo, hwo⟩ : ∃ wo : World, wo = wr := ⟨_, rfl⟩
      rw [← hwo] at KA KX KB ⊢
      clear hwo
      obtain ⟨i0, hi, hz0, hz1, hz2⟩ := info_parts zero9
      have HI := Lib.hid hi
      have HZ0 := Lib.hid hz0
      have HZ1 := Lib.hid hz1
      have HZ2 := Lib.hid hz2
      clear hi hz0 hz1 hz2
      go_loopw [11, 75] (fun v i wr => ∃ j : Nat, j ≤ N ∧ i = .int .i64 (j : Int) ∧ wr.ownsRow wo.heap.size 9 1 v j (rows s j) ∧ Below wo.heap.size wo wr) (fun _ i _ => N - (intOf i).toNat)
      case atStart => exact ⟨0, by omega, rfl, World.ownsRow_nil _ _ _ _, Below.refl _ _⟩
      case round =>
        obtain ⟨j, hj, rfl, ho, hb⟩ := hrel
        obtain ⟨A1, c1, rfl⟩ := own_slice ho
        have HO := Lib.hid ho
        have HB := Lib.hid hb
        clear ho hb
        by_cases hlt : j < N
        · have hsn : s.n = N := KN.out
          have i1 : (j : Int) < (s.n : Int) := by omega
          clear hsn
          go_wp2_with fail
          refine ((KA.out.up HB.out).read (a := (j : Int)) (by omega) i1).mono ?_
          rintro e w5 ⟨rfl, rfl⟩
          rw [Int.toNat_natCast]
          have hsz := HB.out.size
          go_wp2_with (refine wpList_append_own _ rfl (.tmp 84) (.tmp 86) 39 rfl wo.heap.size 9 i0 (.string ByteArray.empty) 1 16 Try.underlying39 HI.out HZ0.out HZ1.out HZ2.out rfl (by decide) _ j _ rfl (HO.out.alloc _) ⟨wr.heap.size, 0, none⟩ 1 1 [.string (s.B j)] rfl rfl (news_one wr _ 9) (by simp [Value.oneCell']) (by unfold maxLen; omega) (by omega) (by simp; omega) ?_; intro v2 w6 own2 g2 _n; have O2 := Lib.hid own2; have G2 := Lib.hid g2; clear own2 g2 _n)
          have O3 := O2.out
          rw [← rows_succ] at O3
          have B3 := (HB.out.alloc hsz (.cells #[.string (s.B j)] 9)).grown G2.out (by simp; omega) (fun g hg => (HO.out.lt g hg).1)
          go_roundw
          case rel => exact ⟨j + 1, by omega, by go_num, O3, B3⟩
          case measure => simp [intOf]; omega
        · obtain rfl : j = N := by omega
          have hT : ∃ g cur, A1 = some ⟨g, 0, none⟩ ∧ Trio w w.heap.size p b xb g x cur s (k : Int) wr ∧ Told cur j s.B := by
            have hu : Uno w w.heap.size p b xb xb x x s (k : Int) wo := ⟨KA.out, KX.out, KX.out, KB.out, LP.out, LB.out, KB.out.size⟩
            rcases HO.out.2 with ⟨_, h⟩ | ⟨g, cp, cur, he, hg, hc, _, _, _, ht⟩
            · omega
            · injection he with he
              exact ⟨g, cur, he, ⟨hu.up HB.out, hc⟩, rows_told (by simpa using ht)⟩
          obtain ⟨g, cur, rfl, hT, hcur⟩ := hT
          have HT := Lib.hid hT
          have HC := Lib.hid hcur
          clear hT hcur HO KA KX KB HB HI HZ0 HZ1 HZ2 hlt hj
          go_wp2_with fail
          refine (writes_any wr p b s HT.out.uno.at_.st).mono ?_
          rintro e w5 ⟨rfl, rfl⟩
          have HS := HT.out.six
          unfold Six at HS
          obtain ⟨e0, e1, e2, e3, e4, e5⟩ := HS
          go_wp2_with fail
          go_region_held3 (fun w' => w'.cell? ⟨xb, 0, none⟩ = some (.int .i64 x.d) ∧ w'.cell? ⟨xb, 1, none⟩ = some (.int .i64 x.a) ∧ w'.cell? ⟨xb, 2, none⟩ = some (.int .i64 x.n) ∧ w'.cell? ⟨xb, 3, none⟩ = some (.int .i64 x.t) ∧ w'.cell? ⟨xb, 4, none⟩ = some (.string x.x) ∧ w'.cell? ⟨xb, 5, none⟩ = some (.bool x.f))
            ((change Six xb x _; with_reducible (first | exact HT.out.drew.six | exact k1.out.six | exact k2.out.six)))
            (first | (go_at_call 11; ((with_reducible refine HT.out.drew.block.mono ?_); rintro e w6 ⟨rfl, g1⟩; have k1 := Lib.hid g1; clear g1)) | (go_at_call 10; ((with_reducible refine (k1.out.write (by omega) _).mono ?_); rintro e w7 ⟨rfl, g2⟩; have k2 := Lib.hid g2; clear g2)))
          all_goals
            obtain ⟨X, hX⟩ : ∃ X, X = blk x.x x.f := ⟨_, rfl⟩
            rw [← hX] at k2 ⊢
            obtain ⟨F, hF⟩ : ∃ F, F = wrE s x.a X := ⟨_, rfl⟩
            rw [← hF] at ⊢
            obtain ⟨z, hz⟩ : ∃ z, z = wrS s x.a X := ⟨_, rfl⟩
            rw [← hz] at k2
            have EX := Lib.hid hX
            have EF := Lib.hid hF
            have EZ := Lib.hid hz
            have FN := Lib.hid HT.out.uno.at_.fine
            clear hX hF hz HT k1 e0 e1 e2 e3 e4 e5
            go_wp2_with fail
            obtain ⟨wp, hwp⟩ : ∃ wp : World, wp = w7 := ⟨_, rfl⟩
            rw [← hwp] at k2 ⊢
            clear hwp
            go_loopw [98] (fun i wr => ∃ t : Nat, t ≤ j ∧ i = .int .i64 (t : Int) ∧ Trio w w.heap.size p b xb g x cur z ((k : Int) + 1) wr) (fun i _ => j - (intOf i).toNat)
            case atStart => exact ⟨0, by omega, rfl, k2.out⟩
            case round =>
              obtain ⟨t, ht, rfl, hT⟩ := hrel
              have T := Lib.hid hT
              clear hT
              by_cases hlt : t < j
              · have i1 : (t : Int) < (j : Int) := by omega
                have i2 : (t : Int) < (z.n : Int) := by have e1 := KN.out; have e2 := EZ.out; rw [e2, wr_n, e1]; exact i1
                have c1 : wr.cell? ⟨g, t, none⟩ = some (.string (s.B t)) := by rw [T.out.was.cell]; exact HC.out t (by have := KN.out; omega)
                go_wp2_with fail
                refine (T.out.uno.at_.read (a := (t : Int)) (by omega) i2).mono ?_
                rintro e w5 ⟨rfl, rfl⟩
                rw [Int.toNat_natCast]
                clear i2
                have HS := T.out.six
                unfold Six at HS
                obtain ⟨e0, e1, e2, e3, e4, e5⟩ := HS
                by_cases hA : (t : Int) ≠ x.a ∨ F = 1
                · have eB : z.B t = s.B t := by rw [EZ.out]; exact wr_far s x.a X t (by rw [← EF.out]; exact hA)
                  rw [eB]
                  clear eB
                  by_cases hA1 : (t : Int) = x.a
                  · have g1 : ((t : Int) == x.a) = true := by simpa using hA1
                    have g2 : ((t : Int) != x.a) = false := by simpa using hA1
                    have g3 : (F == 1) = true := by rcases hA with h | h
                                                    · exact absurd hA1 h
                                                    · simpa using h
                    clear hA hA1
                    go_wp2_with fail
                    go_roundw
                    case rel => exact ⟨t + 1, by omega, by go_num, T.out⟩
                    case measure => simp [intOf]; omega
                  · have g1 : ((t : Int) == x.a) = false := by simpa using hA1
                    have g2 : ((t : Int) != x.a) = true := by simpa using hA1
                    clear hA hA1
                    go_wp2_with fail
                    go_roundw
                    case rel => exact ⟨t + 1, by omega, by go_num, T.out⟩
                    case measure => simp [intOf]; omega
                · obtain ⟨hA1, hA2⟩ := not_or.1 hA
                  have hA3 : (t : Int) = x.a := by simpa using hA1
                  have hN := wr_near s _ x.a X t FN.out hA3 (by rw [← EF.out]; exact hA2)
                  rw [← EF.out, ← EZ.out] at hN
                  obtain ⟨n1, n2, ⟨tt, n3, n4⟩, n5, n6⟩ := hN
                  have hV := FN.out.sz t n1
                  obtain ⟨V, eV⟩ : ∃ V, V = s.B t := ⟨_, rfl⟩
                  rw [← eV] at c1 n4 hV
                  obtain ⟨Y, eY⟩ : ∃ Y, Y = z.B t := ⟨_, rfl⟩
                  rw [← eY] at n4 n5 ⊢
                  have HXS := Lib.hid n2
                  have HVS := Lib.hid hV
                  have HY := Lib.hid (show Y.size = 64 by rw [n4]; exact torn_size n2 hV n3)
                  have HYT := Lib.hid n4
                  have HT3 := Lib.hid n3
                  have H5 := Lib.hid n5
                  have HE : Hid (∀ v, tt ≤ v → v ≤ 64 → (Y.extract v Y.size).toList = (V.extract v V.size).toList) := Lib.hid (fun v q1 q2 => by rw [HY.out, HVS.out, n4]; exact torn_end n2 q1 q2)
                  have HBG : Hid (∀ v (q1 : v < Y.size) (q2 : v < X.size), v < tt → ((Y[v]'q1).toNat : Int) = ((X[v]'q2).toNat : Int)) := Lib.hid (fun v q1 q2 q3 => by
                    have q4 := torn_begin (x := X) (y := V) (t := tt) (j := v) n2 n3 q3
                    rw [← n4, byte_at Y v q1, byte_at X v q2] at q4
                    rw [Option.some.inj q4])
                  have CV : Hid (cur[t]? = some (.string V)) := Lib.hid (by rw [eV]; exact HC.out t (by have := KN.out; omega))
                  have g1 : ((t : Int) == x.a) = true := by simpa using hA3
                  have g2 : ((t : Int) != x.a) = false := by simpa using hA3
                  have g3 : (F == 1) = false := by simpa using hA2
                  have y1 : ((Y.size : Int) == 64) = true := by rw [HY.out]; rfl
                  have y2 : ((Y.size : Int) != 64) = false := by rw [HY.out]; rfl
                  have N6 := Lib.hid n6
                  clear hA hA1 hA2 hA3 n1 n2 n3 n4 n5 n6 hV eV eY
                  by_cases f0 : F = 0
                  · have f1 : (F == 0) = true := by simpa using f0
                    have f2 : Y = X := H5.out f0
                    have F2 := Lib.hid f2
                    clear f0 f2
                    go_wp2_with fail
                    refine T.out.block.mono ?_
                    rw [← EX.out]
                    rintro e w8 ⟨rfl, g4⟩
                    have TCUR := Lib.hid g4
                    clear g4 e0 e1 e2 e3 e4 e5 c1
                    have eq1 : (Y.toList == X.toList) = true := by rw [F2.out]; simp
                    go_wp2_with fail
                    obtain ⟨wc, hwc⟩ : ∃ wc : World, wc = w8 := ⟨_, rfl⟩
                    rw [← hwc] at TCUR ⊢
                    have TW := Lib.hid TCUR.out
                    clear hwc
                    go_loopw [20] (fun u wr => ∃ v : Nat, v ≤ 64 ∧ u = .int .i64 (v : Int) ∧ Trio w w.heap.size p b xb g x cur z ((k : Int) + 1) wr) (fun u _ => 64 - (intOf u).toNat)
                    case atStart => exact ⟨0, by omega, rfl, TW.out⟩
                    case round =>
                      obtain ⟨v, hv, rfl, hT3⟩ := hrel
                      have T3 := Lib.hid hT3
                      clear hT3
                      have HS := T3.out.six
                      unfold Six at HS
                      obtain ⟨e0, e1, e2, e3, e4, e5⟩ := HS
                      by_cases v64 : v < 64
                      · have v1 : (v : Int) < 64 := by omega
                        have b1 : v < Y.size := by have := HY.out; omega
                        have b2 : v < X.size := by have := HXS.out; omega
                        have v2 : (v : Int) < (Y.size : Int) := by omega
                        have v3 : (v : Int) < (X.size : Int) := by omega
                        have v4 : (0 : Int) ≤ (v : Int) := by omega
                        by_cases hq : ((Y[v]'b1).toNat : Int) = ((X[v]'b2).toNat : Int)
                        · have hq1 : (((Y[v]'b1).toNat : Int) == ((X[v]'b2).toNat : Int)) = true := beq_iff_eq.2 hq
                          clear hq
                          go_wp2_with fail
                          go_region_held3 (fun w' => w'.cell? ⟨xb, 0, none⟩ = some (.int .i64 x.d) ∧ w'.cell? ⟨xb, 1, none⟩ = some (.int .i64 x.a) ∧ w'.cell? ⟨xb, 2, none⟩ = some (.int .i64 x.n) ∧ w'.cell? ⟨xb, 3, none⟩ = some (.int .i64 x.t) ∧ w'.cell? ⟨xb, 4, none⟩ = some (.string x.x) ∧ w'.cell? ⟨xb, 5, none⟩ = some (.bool x.f))
                            ((change Six xb x _; with_reducible (first | exact T3.out.drew.six | exact k4.out.six)))
                            (first | (go_at_call 11; ((with_reducible refine T3.out.drew.block.mono ?_); rw [← EX.out]; rintro e w9 ⟨rfl, g4⟩; have k4 := Lib.hid g4; clear g4)))
                          all_goals
                            go_wp2_with fail
                            go_roundw
                            case rel => exact ⟨v + 1, by omega, by go_num, k4.out⟩
                            case measure => simp [intOf]; omega
                        · have hq1 : (((Y[v]'b1).toNat : Int) == ((X[v]'b2).toNat : Int)) = false := beq_eq_false_iff_ne.2 hq
                          have hge : tt ≤ v := by
                            rcases Nat.lt_or_ge v tt with q | q
                            · exact absurd (HBG.out v b1 b2 q) hq
                            · exact q
                          have hqe := Lib.hid (HE.out v hge hv)
                          clear hq hge
                          go_wp2_with fail
                          go_region_held3 (fun w' => w'.cell? ⟨xb, 0, none⟩ = some (.int .i64 x.d) ∧ w'.cell? ⟨xb, 1, none⟩ = some (.int .i64 x.a) ∧ w'.cell? ⟨xb, 2, none⟩ = some (.int .i64 x.n) ∧ w'.cell? ⟨xb, 3, none⟩ = some (.int .i64 x.t) ∧ w'.cell? ⟨xb, 4, none⟩ = some (.string x.x) ∧ w'.cell? ⟨xb, 5, none⟩ = some (.bool x.f))
                            ((change Six xb x _; with_reducible (first | exact T3.out.drew.six | exact k4.out.six)))
                            (first | (go_at_call 11; ((with_reducible refine T3.out.drew.block.mono ?_); rw [← EX.out]; rintro e w9 ⟨rfl, g4⟩; have k4 := Lib.hid g4; clear g4)))
                          all_goals
                            go_wp2_with fail
                            have v5 : (v : Int) ≤ (Y.size : Int) := by omega
                            have v6 : (v : Int) ≤ (V.size : Int) := by have := HVS.out; omega
                            have hqf := hqe.out
                            have c9 : w9.cell? ⟨g, t, none⟩ = some (.string V) := by rw [k4.out.was.cell]; exact CV.out
                            go_quiet (fail)
                            go_wp2_with fail
                            go_roundw
                            case rel => exact ⟨t + 1, by omega, by go_num, k4.out.drewN _⟩
                            case measure => simp [intOf]; omega
                      · obtain rfl : v = 64 := by omega
                        have v1 : decide ((64 : Int) < 64) = false := by decide
                        have hqf := HE.out 64 HT3.out (Nat.le_refl _)
                        have v5 : (64 : Int) ≤ (Y.size : Int) := by have := HY.out; omega
                        have v6 : (64 : Int) ≤ (V.size : Int) := by have := HVS.out; omega
                        have c8 : wr.cell? ⟨g, t, none⟩ = some (.string V) := by rw [T3.out.was.cell]; exact CV.out
                        go_wp2_with fail
                        go_quiet (fail)
                        go_wp2_with fail
                        go_quiet (fail)
                        go_wp2_with fail
                        go_roundw
                        case rel => exact ⟨t + 1, by omega, by go_num, T3.out.drewN _⟩
                        case measure => simp [intOf]; omega
                  · have f1 : (F == 0) = false := by simpa using f0
                    clear f0
                    have TCUR := Lib.hid T.out
                    go_wp2_with fail
                    obtain ⟨wc, hwc⟩ : ∃ wc : World, wc = wr := ⟨_, rfl⟩
                    rw [← hwc] at TCUR ⊢
                    have TW := Lib.hid TCUR.out
                    clear hwc
                    go_loopw [20] (fun u wr => ∃ v : Nat, v ≤ 64 ∧ u = .int .i64 (v : Int) ∧ Trio w w.heap.size p b xb g x cur z ((k : Int) + 1) wr) (fun u _ => 64 - (intOf u).toNat)
                    case atStart => exact ⟨0, by omega, rfl, TW.out⟩
                    case round =>
                      obtain ⟨v, hv, rfl, hT3⟩ := hrel
                      have T3 := Lib.hid hT3
                      clear hT3
                      have HS := T3.out.six
                      unfold Six at HS
                      obtain ⟨e0, e1, e2, e3, e4, e5⟩ := HS
                      by_cases v64 : v < 64
                      · have v1 : (v : Int) < 64 := by omega
                        have b1 : v < Y.size := by have := HY.out; omega
                        have b2 : v < X.size := by have := HXS.out; omega
                        have v2 : (v : Int) < (Y.size : Int) := by omega
                        have v3 : (v : Int) < (X.size : Int) := by omega
                        have v4 : (0 : Int) ≤ (v : Int) := by omega
                        by_cases hq : ((Y[v]'b1).toNat : Int) = ((X[v]'b2).toNat : Int)
                        · have hq1 : (((Y[v]'b1).toNat : Int) == ((X[v]'b2).toNat : Int)) = true := beq_iff_eq.2 hq
                          clear hq
                          go_wp2_with fail
                          go_region_held3 (fun w' => w'.cell? ⟨xb, 0, none⟩ = some (.int .i64 x.d) ∧ w'.cell? ⟨xb, 1, none⟩ = some (.int .i64 x.a) ∧ w'.cell? ⟨xb, 2, none⟩ = some (.int .i64 x.n) ∧ w'.cell? ⟨xb, 3, none⟩ = some (.int .i64 x.t) ∧ w'.cell? ⟨xb, 4, none⟩ = some (.string x.x) ∧ w'.cell? ⟨xb, 5, none⟩ = some (.bool x.f))
                            ((change Six xb x _; with_reducible (first | exact T3.out.drew.six | exact k4.out.six)))
                            (first | (go_at_call 11; ((with_reducible refine T3.out.drew.block.mono ?_); rw [← EX.out]; rintro e w9 ⟨rfl, g4⟩; have k4 := Lib.hid g4; clear g4)))
                          all_goals
                            go_wp2_with fail
                            go_roundw
                            case rel => exact ⟨v + 1, by omega, by go_num, k4.out⟩
                            case measure => simp [intOf]; omega
                        · have hq1 : (((Y[v]'b1).toNat : Int) == ((X[v]'b2).toNat : Int)) = false := beq_eq_false_iff_ne.2 hq
                          have hge : tt ≤ v := by
                            rcases Nat.lt_or_ge v tt with q | q
                            · exact absurd (HBG.out v b1 b2 q) hq
                            · exact q
                          have hqe := Lib.hid (HE.out v hge hv)
                          clear hq hge
                          go_wp2_with fail
                          go_region_held3 (fun w' => w'.cell? ⟨xb, 0, none⟩ = some (.int .i64 x.d) ∧ w'.cell? ⟨xb, 1, none⟩ = some (.int .i64 x.a) ∧ w'.cell? ⟨xb, 2, none⟩ = some (.int .i64 x.n) ∧ w'.cell? ⟨xb, 3, none⟩ = some (.int .i64 x.t) ∧ w'.cell? ⟨xb, 4, none⟩ = some (.string x.x) ∧ w'.cell? ⟨xb, 5, none⟩ = some (.bool x.f))
                            ((change Six xb x _; with_reducible (first | exact T3.out.drew.six | exact k4.out.six)))
                            (first | (go_at_call 11; ((with_reducible refine T3.out.drew.block.mono ?_); rw [← EX.out]; rintro e w9 ⟨rfl, g4⟩; have k4 := Lib.hid g4; clear g4)))
                          all_goals
                            go_wp2_with fail
                            have v5 : (v : Int) ≤ (Y.size : Int) := by omega
                            have v6 : (v : Int) ≤ (V.size : Int) := by have := HVS.out; omega
                            have hqf := hqe.out
                            have c9 : w9.cell? ⟨g, t, none⟩ = some (.string V) := by rw [k4.out.was.cell]; exact CV.out
                            go_quiet (fail)
                            go_wp2_with fail
                            go_roundw
                            case rel => exact ⟨t + 1, by omega, by go_num, k4.out.drewN _⟩
                            case measure => simp [intOf]; omega
                      · obtain rfl : v = 64 := by omega
                        have v1 : decide ((64 : Int) < 64) = false := by decide
                        have hqf := HE.out 64 HT3.out (Nat.le_refl _)
                        have v5 : (64 : Int) ≤ (Y.size : Int) := by have := HY.out; omega
                        have v6 : (64 : Int) ≤ (V.size : Int) := by have := HVS.out; omega
                        have c8 : wr.cell? ⟨g, t, none⟩ = some (.string V) := by rw [T3.out.was.cell]; exact CV.out
                        go_wp2_with fail
                        go_quiet (fail)
                        go_wp2_with fail
                        go_quiet (fail)
                        go_wp2_with fail
                        go_roundw
                        case rel => exact ⟨t + 1, by omega, by go_num, T3.out.drewN _⟩
                        case measure => simp [intOf]; omega
              · obtain rfl : t = j := by omega
                have hm := wr_many s x.a X
                rw [← EF.out, ← EZ.out] at hm
                have m0 := FN.out.mn.1
                have m1 : s.mn ≤ 1000 := by have := FN.out.mn.2; omega
                by_cases f0 : F = 0
                · rw [if_pos f0] at hm
                  have f1 : (F == 0) = true := by simpa using f0
                  have f2 : (F != 0) = false := by simpa using f0
                  have HM := Lib.hid hm
                  clear hm f0
                  go_wp2_with fail
                  refine (writes_any wr p b z T.out.uno.at_.st).mono ?_
                  rw [HM.out]
                  rintro e w5 ⟨rfl, rfl⟩
                  go_wp2_with fail
                  go_ret
                  exact ⟨rfl, T.out.bel⟩
                · rw [if_neg f0] at hm
                  have f1 : (F == 0) = false := by simpa using f0
                  have f2 : (F != 0) = true := by simpa using f0
                  have HM := Lib.hid hm
                  clear hm f0
                  go_wp2_with fail
                  refine (writes_any wr p b z T.out.uno.at_.st).mono ?_
                  rw [HM.out]
                  rintro e w5 ⟨rfl, rfl⟩
                  go_wp2_with fail
                  go_ret
                  exact ⟨rfl, T.out.bel⟩
end Go.Proofs.Ytdlhenpocdlomaa
