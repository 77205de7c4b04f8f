/- JournalSure: the core. Written by wip/tools/gen_jnsu.py. -/
import Derived.Test.YtjffcgimdffkoaaDoorJnSw
namespace Go.Proofs.YtjffcgimdffkoaaDoor
open Go.RowKit

section
variable {w0 w w' : World} {F : Nat} {cs : Array Value} {p b J X Y i c1 c2 : Nat} {T1 T2 : ByteArray} {a1 a2 : Option Addr} {xs1 xs2 : List ByteArray} {E : Int}
theorem Aft.cells (H : Aft w0 F cs p b J X Y i T1 a1 c1 xs1 T2 a2 c2 xs2 E w) : w.cell? ⟨X, 0, none⟩ = some (.string T1) ∧ w.cell? ⟨X, 1, none⟩ = some (.slice a1 xs1.length c1) ∧ w.cell? ⟨Y, 0, none⟩ = some (.string T2) ∧ w.cell? ⟨Y, 1, none⟩ = some (.slice a2 xs2.length c2) ∧ w.frozen? ⟨X, 0, none⟩ = false ∧ w.frozen? ⟨X, 1, none⟩ = false ∧ w.frozen? ⟨Y, 0, none⟩ = false ∧ w.frozen? ⟨Y, 1, none⟩ = false := by
  obtain ⟨R, v, s, s', j, j', W, g1, g2, hs, st, hi, hb, _⟩ := H.ex
  exact ⟨hb.one.box.cell 0, hb.one.box.cell 1, hb.two.box.cell 0, hb.two.box.cell 1, hb.one.box.free 0, hb.one.box.free 1, hb.two.box.free 0, hb.two.box.free 1⟩
end

set_option maxRecDepth 100000 in
set_option maxHeartbeats 8000000 in
theorem sure_main (w : World) (n : Int) (a : Option Addr) (len cap : Nat) (L : Nat → OpJ) (f0 f1 f2 f3 : Int) (hL : OpsJ w a len L) (h3 : 3 ≤ n) (h60 : n ≤ 60) (hlen : len ≤ 30) (hf0 : f0 ≤ 9223372036854775807) (hf2 : f2 ≤ 9223372036854775807) (hT : Tb w) :
    Calls Tryd.prog 3 #[.int .i64 n, .slice a len cap, .agg #[.int .i64 f0, .int .i64 f1, .int .i64 f2, .int .i64 f3]] w fun e w' => e = .returned (.bool true) ∧ Below w.heap.size w w' := by
  obtain ⟨s0, ho, hn0, hp0⟩ := new_pow (n := n.toNat) (by omega) (by omega)
  have HO := Lib.hid ho
  have HN0 := Lib.hid hn0
  have HP0 := Lib.hid hp0
  have HT := Lib.hid hT
  have HL := Lib.hid hL
  have hb0 := boxed w (.cells #[.int .i64 f0, .int .i64 f1, .int .i64 f2, .int .i64 f3] 24)
  have hF := Has.fresh w 24 #[.int .i64 f0, .int .i64 f1, .int .i64 f2, .int .i64 f3]
  obtain ⟨W0, hW⟩ : ∃ W0, W0 = w.alloc (.cells #[.int .i64 f0, .int .i64 f1, .int .i64 f2, .int .i64 f3] 24) := ⟨_, rfl⟩
  obtain ⟨F, hFe⟩ : ∃ F, F = w.heap.size := ⟨_, rfl⟩
  rw [← hW] at hb0 hF
  rw [← hFe] at hF
  have HB0 := Lib.hid hb0
  have HF := Lib.hid hF
  have HW := Lib.hid hW
  have HFe := Lib.hid hFe
  have hn60 : ¬ (60 < n) := by omega
  clear ho hn0 hp0 hT hL hb0 hF hW hFe
  go_enter Tryd.func3, Tryd.ntmps3
  go_wp2_with fail
  rw [← HW.out, ← HFe.out]
  refine (jn_awake W0 (HT.out.old HB0.out)).mono ?_
  rintro e w1 ⟨rfl, hb1⟩
  have B1 := Lib.hid (lots HB0.out hb1)
  have F1 := Lib.hid (HF.out.up hb1)
  clear hb1 HF HB0
  go_wp2_with fail
  refine (size_any w1 a len cap L (HL.out.up B1.out) (by omega)).mono ?_
  rintro e w' ⟨N, rfl, ⟨hN0, hN1⟩, hN, rfl⟩
  have HNN := Lib.hid hN
  clear hN
  by_cases h4 : N ≤ 4000
  · go_wp2_with fail
    refine (new_at w1 n h3 (by omega)).mono ?_
    rintro e w2 ⟨p, b, rfl, ha, lp, lb, hb⟩
    have S2 : Hid (Sto w w2 p b (newS n.toNat) 0) := ⟨ha, up2 B1.out hb, Nat.le_trans B1.out.size lp, Nat.le_trans B1.out.size lb⟩
    have F2 := Lib.hid (F1.out.up hb)
    clear ha lp lb hb F1 B1
    go_wp2_with fail
    have hnew : Calls Tryd.prog 8 #[.pointer (some ⟨p, 0, none⟩)] w2 (fun e w' => ∃ J R v, e = .returned (.tuple #[.pointer (some ⟨J, 0, none⟩), .int .i64 0]) ∧ Ses w w' J R p b v s0 (appJ j0 []) 10000 ∧ But p b w2 w' ∧ w2.heap.size ≤ R) := by
      refine (open_any w2 p b (newS n.toNat) 0 S2.out.at_ (by omega) (HT.out.old S2.out.bel)).mono fun e w' q => ?_
      rw [HO.out] at q
      obtain ⟨hb, h0, J, R, v, a1, a2, a3, a4, a5⟩ := q
      have := S2.out.bel.size
      have hl := S2.out.lo
      exact ⟨J, R, v, a3, ⟨a4, S2.out.bel.trans (hb.below this hl.1 hl.2), by omega, by omega, hl.1, hl.2⟩, hb, a2⟩
    refine hnew.mono ?_
    rintro e w3 ⟨J, R, v, rfl, hs3, hb3, hR3⟩
    have HFR := Lib.hid (show F ≠ R by have := F2.out.lt; omega)
    have f3' := hb3.hasT S2.out.at_ F2.out (by decide) (by decide)
    have hc0 : w3.cell? ⟨F, 0, none⟩ = some (.int .i64 f0) := f3'.cell 0
    have hc1 : w3.cell? ⟨F, 1, none⟩ = some (.int .i64 f1) := f3'.cell 1
    have S3 := Lib.hid hs3
    have F3 := Lib.hid f3'
    clear hnew hs3 hb3 hR3 f3' F2 S2
    go_wp2_with fail
    refine (S3.out.jat.at_.fuse hf0 rfl).mono ?_
    rintro e w4 ⟨rfl, ha4, hk4⟩
    have S4 := Lib.hid (S3.out.store ha4 hk4 (fu_n _ _ _))
    have F4 := Lib.hid (hk4.hasT S3.out.jat.at_ F3.out (by decide) (by decide))
    clear ha4 hk4 hc0 hc1 S3 F3
    go_wp2_with fail
    have I0 : SuI w F #[.int .i64 f0, .int .i64 f1, .int .i64 f2, .int .i64 f3] p b J w4.heap.size (w4.heap.size + 1) 0 ((w4.alloc (.cells #[.string { data := #[] }, .slice none 0 0] 37)).alloc (.cells #[.string { data := #[] }, .slice none 0 0] 37)) := by
      have hb5 := (boxed w4 (.cells #[.string { data := #[] }, .slice none 0 0] 37)).alloc (by simp) (.cells #[.string { data := #[] }, .slice none 0 0] 37)
      have hX := (Has.fresh w4 37 #[.string { data := #[] }, .slice none 0 0]).more (.cells #[.string { data := #[] }, .slice none 0 0] 37)
      have hY := Has.fresh (w4.alloc (.cells #[.string { data := #[] }, .slice none 0 0] 37)) 37 #[.string { data := #[] }, .slice none 0 0]
      rw [show (w4.alloc (.cells #[.string { data := #[] }, .slice none 0 0] 37)).heap.size = w4.heap.size + 1 by simp] at hY
      have hj := S4.out.jat.jv.lt
      have hl := S4.out.lo
      have hp := S4.out.jat.at_.lt
      have hfl := F4.out.lt
      have hfr := HFR.out
      have hne := S4.out.jat.ne
      have hsz := S4.out.bel.size
      refine ⟨R, v, _, _, { data := #[] }, none, 0, [], p, { data := #[] }, none, 0, [], p, S4.out.up hb5, ?_, ⟨⟨hX, .inl ⟨rfl, rfl⟩, by omega, by simp; omega⟩, ⟨hY, .inl ⟨rfl, rfl⟩, by omega, by simp; omega⟩, (F4.out.more _).more _, by omega, by omega, by omega, by simp⟩, rfl, by simp, HP0.out.ne⟩
      rw [fu_n, fu_B]
      exact HP0.out.inv
    obtain ⟨W5, hW5⟩ : ∃ W5, W5 = (w4.alloc (.cells #[.string { data := #[] }, .slice none 0 0] 37)).alloc (.cells #[.string { data := #[] }, .slice none 0 0] 37) := ⟨_, rfl⟩
    obtain ⟨Y, hYe⟩ : ∃ Y, Y = w4.heap.size + 1 := ⟨_, rfl⟩
    obtain ⟨X, hXe⟩ : ∃ X, X = w4.heap.size := ⟨_, rfl⟩
    rw [← hW5, ← hYe, ← hXe] at I0
    rw [← hW5, ← hYe, ← hXe]
    have HI0 := Lib.hid I0
    clear I0 hW5 hYe hXe S4 F4
    go_loopw [67] (fun vi wr => ∃ i : Nat, i ≤ len ∧ vi = .int .i64 (i : Int) ∧ Hid (SuI w F #[.int .i64 f0, .int .i64 f1, .int .i64 f2, .int .i64 f3] p b J X Y i wr)) (fun vi _ => len - (intOf vi).toNat)
    case atStart => exact ⟨0, Nat.zero_le _, rfl, HI0⟩
    case round =>
      obtain ⟨i, hi, rfl, HI⟩ := hrel
      clear HI0
      obtain ⟨R, v, s, j, T1, a1, c1, xs1, g1, T2, a2, c2, xs2, g2, hs, hinv, hb, h1, hl1, hne⟩ := HI.out.ex
      by_cases hlt : i < len
      · obtain ⟨lb, off, rfl, hlay, hn, hsz⟩ := (HL.out.up hs.bel) i hlt
        obtain ⟨d, nn, tt, x, hop⟩ : ∃ d nn tt x, L i = ⟨d, nn, tt, x⟩ := ⟨_, _, _, _, rfl⟩
        rw [hop] at hlay hn hsz
        obtain ⟨k0, k1, k2, k3⟩ := hlay
        simp only at k0 k1 k2 k3 hn hsz
        have hx4 : x.size ≤ 4000 := by have := HNN.out h4 i hlt; rw [hop] at this; exact this
        have y0 : wr.cell? ⟨Y, 0, none⟩ = some (.string T2) := hb.two.box.cell 0
        have y1 : wr.cell? ⟨Y, 1, none⟩ = some (.slice a2 xs2.length c2) := hb.two.box.cell 1
        have z1 := hb.two.box.free 0
        have z2 := hb.two.box.free 1
        have hYl := hb.two.box.lt
        have hlb : lb < wr.heap.size := World.block_lt_of_cell? _ _ k0
        clear hop hn HI
        by_cases hd : d = 1
        · have hd1 : (d == 1) = true := by rw [hd]; rfl
          have HC : Hid (Calls Tryd.prog 10 #[.pointer (some ⟨J, 0, none⟩), .string x] (((wr.setCell ⟨Y, 0, none⟩ (.string x)).setCell ⟨Y, 1, none⟩ (.slice none 0 0)).alloc (.cells #[.int .i64 d, .int .i64 nn, .int .i64 tt, .string x] 39))
              fun e w' => ∃ E, e = .returned (.int .i64 E) ∧ Aft w F #[.int .i64 f0, .int .i64 f1, .int .i64 f2, .int .i64 f3] p b J X Y i T1 a1 c1 xs1 x none 0 [] E w' ) := by
            have hn := hb.ne
            have hl := hb.lo
            have b1 : Bxs w ((wr.setCell ⟨Y, 0, none⟩ (.string x)).setCell ⟨Y, 1, none⟩ (.slice none 0 0)) F #[.int .i64 f0, .int .i64 f1, .int .i64 f2, .int .i64 f3] X Y R T1 a1 c1 xs1 g1 x none 0 [] g1 := hb.put2 (xs := []) (.inl ⟨rfl, rfl⟩) ⟨hb.one.ne, hn.2.2.2.1, hn.2.2.2.2.1, hl.2.2.1, hb.one.lt⟩ (by simp)
            have s1 : Ses w ((wr.setCell ⟨Y, 0, none⟩ (.string x)).setCell ⟨Y, 1, none⟩ (.slice none 0 0)) J R p b v s j (10000 + 10000 * i) := (hs.put hb.two.box (by decide) (Ne.symm hn.2.2.1) hl.2.1).put (hb.two.box.put 0 _) (by decide) (Ne.symm hn.2.2.1) hl.2.1
            have al := boxed ((wr.setCell ⟨Y, 0, none⟩ (.string x)).setCell ⟨Y, 1, none⟩ (.slice none 0 0)) (.cells #[.int .i64 d, .int .i64 nn, .int .i64 tt, .string x] 39)
            exact snap_aft (s1.up al) hinv (b1.up al) h1 hl1 hne HT.out (by unfold maxLen; omega) (by omega)
          clear hd hs hinv hb h1 hl1 hne
          go_wp2_with fail
          refine HC.out.mono ?_
          rintro e w6 ⟨E, rfl, haft⟩
          have HA := Lib.hid haft
          obtain ⟨x0, x1, y0', y1', r0, r1, r2, r3⟩ := haft.cells
          have hXl : X < w6.heap.size := World.block_lt_of_cell? _ _ x0
          have hYl : Y < w6.heap.size := World.block_lt_of_cell? _ _ y0'
          clear haft
          by_cases e4 : E = 4
          · subst e4
            have HIS := Lib.hid HA.out.is
            go_wp2_with fail
            refine HIS.out.mono ?_
            rintro e w7 ⟨rfl, hb7⟩
            have HN : Hid (SuI w F #[.int .i64 f0, .int .i64 f1, .int .i64 f2, .int .i64 f3] p b J X Y (i + 1) ((w7.setCell ⟨Y, 0, none⟩ (.string T1)).setCell ⟨Y, 1, none⟩ (.slice a1 xs1.length c1))) :=
              HA.out.next4 hb7
            obtain ⟨hc, hf⟩ := bcell hb7
            have x0' : w7.cell? ⟨X, 0, none⟩ = some (.string T1) := (hc X 0 hXl).trans x0
            have x1' : w7.cell? ⟨X, 1, none⟩ = some (.slice a1 xs1.length c1) := (hc X 1 hXl).trans x1
            have y0'' : w7.cell? ⟨Y, 0, none⟩ = some (.string x) := (hc Y 0 hYl).trans y0'
            have y1'' : w7.cell? ⟨Y, 1, none⟩ = some (.slice none 0 0) := (hc Y 1 hYl).trans y1'
            have r2' := (hf Y 0 hYl).trans r2
            have r3' := (hf Y 1 hYl).trans r3
            clear hb7 hc hf x0 x1 y0' y1' r0 r1 r2 r3
            go_wp2
            go_roundw
            case rel => exact ⟨i + 1, by omega, by go_num, HN⟩
            case measure => simp [intOf]; omega
          · have e40 : (E == 4) = false := by simpa using e4
            by_cases e0 : E = 0
            · subst e0
              have HN : Hid (SuI w F #[.int .i64 f0, .int .i64 f1, .int .i64 f2, .int .i64 f3] p b J X Y (i + 1) ((w6.setCell ⟨X, 0, none⟩ (.string x)).setCell ⟨X, 1, none⟩ (.slice none 0 0))) :=
                HA.out.next0
              clear e4 e40
              go_wp2
              go_roundw
              case rel => exact ⟨i + 1, by omega, by go_num, HN⟩
              case measure => simp [intOf]; omega
            · have e00 : (E != 0) = true := by simpa using e0
              have HE : Hid (SuE w F #[.int .i64 f0, .int .i64 f1, .int .i64 f2, .int .i64 f3] p b X Y T1 a1 c1 xs1 x none 0 [] w6) := HA.out.down e4 e0 (by omega)
              clear e4 e0 x0 x1 y0' y1' r0 r1 r2 r3 hXl hYl HA
              obtain ⟨w9, hw9⟩ : ∃ w9, w9 = w6 := ⟨_, rfl⟩
              rw [← hw9] at HE ⊢
              clear hw9
              obtain ⟨nn', jj, hr⟩ := HE.out.rdy
              have R0 := Lib.hid hr
              clear hr HE
              go_wp2_with fail
              refine R0.out.restart.mono ?_
              rintro e w10 ⟨rfl, h10, hk10⟩
              have R10 := Lib.hid h10
              have c2' : w10.cell? ⟨F, 2, none⟩ = some (.int .i64 f2) := h10.cells.2.2.2.2.cell 2
              have c3' : w10.cell? ⟨F, 3, none⟩ = some (.int .i64 f3) := h10.cells.2.2.2.2.cell 3
              clear h10 hk10 R0
              go_wp2_with fail
              refine (R10.out.fuse hf2).mono ?_
              rintro e w11 ⟨rfl, h11, hk11⟩
              have R11 := Lib.hid h11
              clear h11 hk11 R10 c2' c3'
              go_wp2_with fail
              refine (R11.out.open_ (by omega) HT.out).mono ?_
              rintro e w12 ⟨J1, rfl, h12, v12, hk12⟩
              have R12 := Lib.hid h12
              have V1 := Lib.hid v12
              clear h12 v12 hk12 R11
              go_wp2_with fail
              refine R12.out.restart.mono ?_
              rintro e w13 ⟨rfl, h13, hk13⟩
              have R13 := Lib.hid h13
              have V13 := Lib.hid (V1.out.but hk13)
              clear h13 hk13 R12 V1
              go_wp2_with fail
              refine (R13.out.open_ (by omega) HT.out).mono ?_
              rintro e w14 ⟨J2, rfl, h14, v14, hk14⟩
              have R14 := Lib.hid h14
              have V2 := Lib.hid v14
              have V14 := Lib.hid (V13.out.but hk14)
              clear h14 v14 hk14 R13 V13
              go_wp2_with fail
              refine (R14.out.open_ (by omega) HT.out).mono ?_
              rintro e w15 ⟨J3, rfl, h15, v15, hk15⟩
              have R15 := Lib.hid h15
              have V3 := Lib.hid v15
              have U2 := Lib.hid (V2.out.but hk15)
              have U1 := Lib.hid (V14.out.but hk15)
              obtain ⟨x0, x1, y0, y1, _⟩ := h15.cells
              have hyl15 : Y < w15.heap.size := World.block_lt_of_cell? _ _ y0
              have BG := Lib.hid h15.big
              clear h15 v15 hk15 R14 V14 V2
              obtain ⟨TT, hTT⟩ : ∃ TT, TT = str (jj.L.headD []) := ⟨_, rfl⟩
              obtain ⟨ys, hys⟩ : ∃ ys, ys = jj.L.tail.map str := ⟨_, rfl⟩
              obtain ⟨KK, hKK⟩ : ∃ KK, KK = (til nn' jj.half : Int) - (jj.next : Int) := ⟨_, rfl⟩
              have EQ := Lib.hid (And.intro hTT (And.intro hys hKK))
              clear hTT hys hKK
              have HI1 := Lib.hid (R15.out.is1 U2.out)
              cases htl : tells jj T1 xs1 with
              | true =>
                rw [htl] at HI1
                clear htl
                go_wp2_with fail
                refine HI1.out.mono ?_
                rintro e w16 ⟨rfl, hb16⟩
                have V1' := Lib.hid (U1.out.up hb16)
                have V2' := Lib.hid (U2.out.up hb16)
                have V3' := Lib.hid (V3.out.up hb16)
                have BB := Lib.hid (lots R15.out.bel hb16)
                clear hb16 x0 x1 y0 y1 U1 U2 V3 HI1 R15
                go_wp2_with fail
                refine (V2'.out.text TT EQ.out.1).mono ?_
                rintro e w' ⟨rfl, rfl⟩
                go_wp2_with fail
                refine (V2'.out.records BG.out.2 BG.out.1 ys EQ.out.2.1).mono ?_
                rintro e w17 ⟨a3, c3, rfl, hs17, _, hb17⟩
                have hal := boxed w17 (.cells #[.string TT, .slice a3 ys.length c3] 37)
                have hN17 := Has.fresh w17 37 #[.string TT, .slice a3 ys.length c3]
                obtain ⟨W17, hW17⟩ : ∃ W17, W17 = w17.alloc (.cells #[.string TT, .slice a3 ys.length c3] 37) := ⟨_, rfl⟩
                rw [← hW17] at hal hN17
                have V1a := Lib.hid (V1'.out.up (lots hb17 hal))
                have V2a := Lib.hid (V2'.out.up (lots hb17 hal))
                have V3a := Lib.hid (V3'.out.up (lots hb17 hal))
                have SA := Lib.hid (hs17.up hal)
                have BB2 := Lib.hid (lots BB.out (lots hb17 hal))
                have HW17 := Lib.hid hW17
                obtain ⟨NB, hNB⟩ : ∃ NB, NB = w17.heap.size := ⟨_, rfl⟩
                rw [← hNB] at hN17
                have HNB := Lib.hid hNB
                have NN := Lib.hid hN17
                have t0 : W17.cell? ⟨NB, 0, none⟩ = some (.string TT) := hN17.cell 0
                have t1 : W17.cell? ⟨NB, 1, none⟩ = some (.slice a3 ys.length c3) := hN17.cell 1
                clear hs17 hb17 hal hN17 hW17 hNB V1' V2' V3' BB
                go_wp2_with fail
                rw [← HW17.out, ← HNB.out]
                refine (V3a.out.is BG.out.2 BG.out.1 TT EQ.out.1 ys EQ.out.2.1 a3 c3 SA.out).mono ?_
                rintro e w18 ⟨rfl, hb18⟩
                have V1b := Lib.hid (V1a.out.up hb18)
                have V2b := Lib.hid (V2a.out.up hb18)
                have V3b := Lib.hid (V3a.out.up hb18)
                have SB := Lib.hid (SA.out.up hb18)
                have BB3 := Lib.hid (lots BB2.out hb18)
                have NN2 := Lib.hid (NN.out.up hb18)
                clear hb18 V1a V2a V3a SA BB2 t0 t1 NN
                go_wp2_with fail
                refine (V3b.out.room BG.out.2 BG.out.1 KK EQ.out.2.2).mono ?_
                rintro e w19 ⟨rfl, q19, rfl⟩
                have hd19 : Below w18.heap.size w18 (w18.drewN q19) := ⟨rfl, rfl, rfl, Nat.le_refl _, fun _ _ => rfl⟩
                have V1c := Lib.hid (V1b.out.up hd19)
                have V2c := Lib.hid (V2b.out.up hd19)
                have SC := Lib.hid (SB.out.up hd19)
                have BB4 := Lib.hid (lots BB3.out hd19)
                have NN3 := Lib.hid (NN2.out.up hd19)
                obtain ⟨w19, hw19⟩ : ∃ w19, w19 = w18.drewN q19 := ⟨_, rfl⟩
                rw [← hw19] at V1c V2c SC BB4 NN3 ⊢
                clear hd19 hw19 V1b V2b V3b SB BB3 NN2
                go_wp2_with fail
                refine (V2c.out.room BG.out.2 BG.out.1 KK EQ.out.2.2).mono ?_
                rintro e w20 ⟨rfl, q20, rfl⟩
                have hd20 : Below w19.heap.size w19 (w19.drewN q20) := ⟨rfl, rfl, rfl, Nat.le_refl _, fun _ _ => rfl⟩
                have V1d := Lib.hid (V1c.out.up hd20)
                have SD := Lib.hid (SC.out.up hd20)
                have BB5 := Lib.hid (lots BB4.out hd20)
                have nn4 := NN3.out.up hd20
                obtain ⟨w20, hw20⟩ : ∃ w20, w20 = w19.drewN q20 := ⟨_, rfl⟩
                rw [← hw20] at V1d SD BB5 nn4 ⊢
                have t0 : w20.cell? ⟨NB, 0, none⟩ = some (.string TT) := nn4.cell 0
                have t1 : w20.cell? ⟨NB, 1, none⟩ = some (.slice a3 ys.length c3) := nn4.cell 1
                clear hd20 hw20 V1c V2c SC BB4 NN3 nn4
                go_wp2_with fail
                refine (V1d.out.is BG.out.2 BG.out.1 TT EQ.out.1 ys EQ.out.2.1 a3 c3 SD.out).mono ?_
                rintro e w21 ⟨rfl, hb21⟩
                have BB6 := Lib.hid (lots BB5.out hb21)
                clear hb21 V1d SD BB5 t0 t1
                go_wp2
                go_ret
                exact ⟨rfl, BB6.out⟩
              | false =>
                have HI3 : Hid (∀ W : World, Below w15.heap.size w15 W → Calls Tryd.prog 12 #[.agg #[.string x, .slice none 0 0], .pointer (some ⟨J2, 0, none⟩)] W fun e w' => e = .returned (.bool true) ∧ Below W.heap.size W w') := fun W z => (R15.out.up z).is2 (U2.out.up z) htl
                rw [htl] at HI1
                clear htl
                go_wp2_with fail
                refine HI1.out.mono ?_
                rintro e w16a ⟨rfl, hb16a⟩
                have HI4 := Lib.hid (HI3.out w16a hb16a)
                have y0a : w16a.cell? ⟨Y, 0, none⟩ = some (.string x) := kcell hb16a y0
                have y1a : w16a.cell? ⟨Y, 1, none⟩ = some (.slice none 0 0) := kcell hb16a y1
                have Bq := Lib.hid hb16a
                clear hb16a x0 x1 y0 y1 HI1 HI3
                go_wp2_with fail
                refine HI4.out.mono ?_
                rintro e w16 ⟨rfl, hb16⟩
                have hb16' := lots Bq.out hb16
                have V1' := Lib.hid (U1.out.up hb16')
                have V2' := Lib.hid (U2.out.up hb16')
                have V3' := Lib.hid (V3.out.up hb16')
                have BB := Lib.hid (lots R15.out.bel hb16')
                clear hb16 hb16' y0a y1a U1 U2 V3 R15 HI4 Bq
                go_wp2_with fail
                refine (V2'.out.text TT EQ.out.1).mono ?_
                rintro e w' ⟨rfl, rfl⟩
                go_wp2_with fail
                refine (V2'.out.records BG.out.2 BG.out.1 ys EQ.out.2.1).mono ?_
                rintro e w17 ⟨a3, c3, rfl, hs17, _, hb17⟩
                have hal := boxed w17 (.cells #[.string TT, .slice a3 ys.length c3] 37)
                have hN17 := Has.fresh w17 37 #[.string TT, .slice a3 ys.length c3]
                obtain ⟨W17, hW17⟩ : ∃ W17, W17 = w17.alloc (.cells #[.string TT, .slice a3 ys.length c3] 37) := ⟨_, rfl⟩
                rw [← hW17] at hal hN17
                have V1a := Lib.hid (V1'.out.up (lots hb17 hal))
                have V2a := Lib.hid (V2'.out.up (lots hb17 hal))
                have V3a := Lib.hid (V3'.out.up (lots hb17 hal))
                have SA := Lib.hid (hs17.up hal)
                have BB2 := Lib.hid (lots BB.out (lots hb17 hal))
                have HW17 := Lib.hid hW17
                obtain ⟨NB, hNB⟩ : ∃ NB, NB = w17.heap.size := ⟨_, rfl⟩
                rw [← hNB] at hN17
                have HNB := Lib.hid hNB
                have NN := Lib.hid hN17
                have t0 : W17.cell? ⟨NB, 0, none⟩ = some (.string TT) := hN17.cell 0
                have t1 : W17.cell? ⟨NB, 1, none⟩ = some (.slice a3 ys.length c3) := hN17.cell 1
                clear hs17 hb17 hal hN17 hW17 hNB V1' V2' V3' BB
                go_wp2_with fail
                rw [← HW17.out, ← HNB.out]
                refine (V3a.out.is BG.out.2 BG.out.1 TT EQ.out.1 ys EQ.out.2.1 a3 c3 SA.out).mono ?_
                rintro e w18 ⟨rfl, hb18⟩
                have V1b := Lib.hid (V1a.out.up hb18)
                have V2b := Lib.hid (V2a.out.up hb18)
                have V3b := Lib.hid (V3a.out.up hb18)
                have SB := Lib.hid (SA.out.up hb18)
                have BB3 := Lib.hid (lots BB2.out hb18)
                have NN2 := Lib.hid (NN.out.up hb18)
                clear hb18 V1a V2a V3a SA BB2 t0 t1 NN
                go_wp2_with fail
                refine (V3b.out.room BG.out.2 BG.out.1 KK EQ.out.2.2).mono ?_
                rintro e w19 ⟨rfl, q19, rfl⟩
                have hd19 : Below w18.heap.size w18 (w18.drewN q19) := ⟨rfl, rfl, rfl, Nat.le_refl _, fun _ _ => rfl⟩
                have V1c := Lib.hid (V1b.out.up hd19)
                have V2c := Lib.hid (V2b.out.up hd19)
                have SC := Lib.hid (SB.out.up hd19)
                have BB4 := Lib.hid (lots BB3.out hd19)
                have NN3 := Lib.hid (NN2.out.up hd19)
                obtain ⟨w19, hw19⟩ : ∃ w19, w19 = w18.drewN q19 := ⟨_, rfl⟩
                rw [← hw19] at V1c V2c SC BB4 NN3 ⊢
                clear hd19 hw19 V1b V2b V3b SB BB3 NN2
                go_wp2_with fail
                refine (V2c.out.room BG.out.2 BG.out.1 KK EQ.out.2.2).mono ?_
                rintro e w20 ⟨rfl, q20, rfl⟩
                have hd20 : Below w19.heap.size w19 (w19.drewN q20) := ⟨rfl, rfl, rfl, Nat.le_refl _, fun _ _ => rfl⟩
                have V1d := Lib.hid (V1c.out.up hd20)
                have SD := Lib.hid (SC.out.up hd20)
                have BB5 := Lib.hid (lots BB4.out hd20)
                have nn4 := NN3.out.up hd20
                obtain ⟨w20, hw20⟩ : ∃ w20, w20 = w19.drewN q20 := ⟨_, rfl⟩
                rw [← hw20] at V1d SD BB5 nn4 ⊢
                have t0 : w20.cell? ⟨NB, 0, none⟩ = some (.string TT) := nn4.cell 0
                have t1 : w20.cell? ⟨NB, 1, none⟩ = some (.slice a3 ys.length c3) := nn4.cell 1
                clear hd20 hw20 V1c V2c SC BB4 NN3 nn4
                go_wp2_with fail
                refine (V1d.out.is BG.out.2 BG.out.1 TT EQ.out.1 ys EQ.out.2.1 a3 c3 SD.out).mono ?_
                rintro e w21 ⟨rfl, hb21⟩
                have BB6 := Lib.hid (lots BB5.out hb21)
                clear hb21 V1d SD BB5 t0 t1
                go_wp2
                go_ret
                exact ⟨rfl, BB6.out⟩

        · have hd1 : (d == 1) = false := by simpa using hd
          have al := boxed wr (.cells #[.int .i64 d, .int .i64 nn, .int .i64 tt, .string x] 39)
          have hop2 := Has.fresh wr 39 #[.int .i64 d, .int .i64 nn, .int .i64 tt, .string x]
          obtain ⟨W2, hW2⟩ : ∃ W2, W2 = wr.alloc (.cells #[.int .i64 d, .int .i64 nn, .int .i64 tt, .string x] 39) := ⟨_, rfl⟩
          obtain ⟨Z, hZe⟩ : ∃ Z, Z = wr.heap.size := ⟨_, rfl⟩
          rw [← hW2] at al hop2
          rw [← hZe] at hop2
          have S2 := Lib.hid (hs.up al)
          have BX2 := Lib.hid (hb.up al)
          have OP2 := Lib.hid hop2
          have hb2 := hb.up al
          have x0 : W2.cell? ⟨X, 0, none⟩ = some (.string T1) := hb2.one.box.cell 0
          have x1 : W2.cell? ⟨X, 1, none⟩ = some (.slice a1 xs1.length c1) := hb2.one.box.cell 1
          have o3 : W2.cell? ⟨Z, 3, none⟩ = some (.string x) := hop2.cell 3
          have HX1 := Lib.hid hb2.one.strA
          have HXN := Lib.hid hb2.one.nil
          have HXl := Lib.hid hb2.len
          have IV := Lib.hid (And.intro hinv (And.intro h1 (And.intro hl1 hne)))
          have hZY : Z ≠ Y := by omega
          have hXY : X ≠ Y := hb.ne.1
          have KS : Hid (Sto3 W2 X T1 a1 xs1.length c1 Z x) := ⟨x0, x1, o3⟩
          have hRl : R < W2.heap.size := Nat.lt_of_lt_of_le hs.jat.jv.lt al.size
          have HW2 := Lib.hid hW2
          have HZ := Lib.hid hZe
          have hXl : X < W2.heap.size := hb2.one.box.lt
          have hZl : Z < W2.heap.size := hop2.lt
          have y0w : W2.cell? ⟨Y, 0, none⟩ = some (.string T2) := hb2.two.box.cell 0
          have y1w : W2.cell? ⟨Y, 1, none⟩ = some (.slice a2 xs2.length c2) := hb2.two.box.cell 1
          have z1w := hb2.two.box.free 0
          have z2w := hb2.two.box.free 1
          have hYlw : Y < W2.heap.size := hb2.two.box.lt
          obtain ⟨xs', hxs⟩ : ∃ xs', xs' = xs1 ++ [x] := ⟨_, rfl⟩
          have HXS := Lib.hid hxs
          have hxm : x.size ≤ maxLen := by unfold maxLen; omega
          have hi30 : i ≤ 30 := by omega
          clear hxs hd al hop2 hW2 hZe hs hb hb2 hinv h1 hl1 hne y0 y1 z1 z2
          go_wp2_with fail
          rw [← HW2.out, ← HZ.out]
          go_region_held3 (fun w' => w'.cell? ⟨X, 0, none⟩ = some (.string T1) ∧ w'.cell? ⟨X, 1, none⟩ = some (.slice a1 xs1.length c1) ∧ w'.cell? ⟨Z, 3, none⟩ = some (.string x))
            (first | (go_keep; done) | (change Sto3 _ X T1 a1 xs1.length c1 Z x; (first | (with_reducible exact (k6.out.off hXY hZY).off hXY hZY) | (with_reducible exact k6.out.off hXY hZY) | (with_reducible exact k6.out) | (with_reducible exact k5.out.al _) | (with_reducible exact k5.out))))
            (first
            | ((refine step_run (by rfl) (.tmp 83) (.tmp 85) 35 (by rfl) _ _ (by rfl) (by rfl) (copy_any 35 _ _ a1 c1 xs1 (by first | exact (Has.fresh _ _ _).drew1 | exact ((Has.fresh _ _ _).more _).drew1 | exact row_three _ _) (HX1.out.up (by first | exact bel1 _ _ | exact bel2 _ _ _)) (by have := HXl.out.1; omega) HXN.out) ?_; intro v5 w5 hcs; obtain ⟨Rg, l1, l2, rw5, t5⟩ := hcs; have R5 := Lib.hid rw5; have B5 := Lib.hid (t5.past (w := W2) (by first | exact bel1 _ _ | exact bel2 _ _ _) (by first | exact Nat.le_refl _ | omega)); have lg := (show W2.heap.size ≤ Rg by omega); have hs5 := B5.out.size; have hX5 : X < w5.heap.size := Nat.lt_of_lt_of_le hXl hs5; have hZ5 : Z < w5.heap.size := Nat.lt_of_lt_of_le hZl hs5; have k5 := Lib.hid (KS.out.up B5.out); (first | (have yc := y_two t5) | (have yc := y_three t5) | skip); clear rw5 t5 l1))
            | ((refine step_run (by rfl) (.tmp 86) (.tmp 89) 35 (by rfl) _ _ (by rfl) (by rfl) (more_as 35 _ W2.heap.size _ _ _ xs1 xs' x HXS.out (by first | exact R5.out | exact R5.out.up (boxed _ _)) lg (by first | exact hs5 | (simp; omega)) (by have := HXl.out.1; omega) (by first | exact yc | exact (Has.fresh _ _ _).cell 0)) ?_; intro v6 w6 hms; obtain ⟨R6, m1, m2, rw6, t6, _⟩ := hms; obtain ⟨A6, C6, rfl, _⟩ := rw6.form; have R66 := Lib.hid (And.intro m1 (And.intro m2 rw6)); have B6 := Lib.hid (t6.past (w := W2) (by first | exact B5.out | exact B5.out.alloc B5.out.size _) lg); have k6 := Lib.hid (KS.out.up B6.out); have y0b : w6.cell? ⟨Y, 0, none⟩ = some (.string T2) := kcell B6.out y0w; have y1b : w6.cell? ⟨Y, 1, none⟩ = some (.slice a2 xs2.length c2) := kcell B6.out y1w; have z1b : w6.frozen? ⟨Y, 0, none⟩ = false := ((bcell B6.out).2 Y 0 hYlw).trans z1w; have z2b : w6.frozen? ⟨Y, 1, none⟩ = false := ((bcell B6.out).2 Y 1 hYlw).trans z2w; clear rw6 t6 m1 m2)))
          all_goals
            have HC9 : Hid (Calls Tryd.prog 11 #[.pointer (some ⟨J, 0, none⟩), .string x] ((w6.setCell ⟨Y, 0, none⟩ (.string T1)).setCell ⟨Y, 1, none⟩ (.slice A6 xs'.length C6)) fun e w' => ∃ E, e = .returned (.int .i64 E) ∧ Aft w F #[.int .i64 f0, .int .i64 f1, .int .i64 f2, .int .i64 f3] p b J X Y i T1 a1 c1 xs1 T1 A6 C6 xs' E w') := by
              have b6 := BX2.out.up B6.out
              have s6 := S2.out.up B6.out
              obtain ⟨m1, m2, rw6⟩ := R66.out
              have hlo := b6.lo
              have hne := b6.ne
              have hsz := S2.out.bel.size
              have b9 := b6.put2 (T := T1) rw6 ⟨by omega, by omega, by omega, by omega, m2⟩ (by rw [HXS.out]; have := IV.out.2.2.1; simp; omega)
              have s9 := (s6.put (i := 0) (u := .string T1) b6.two.box (by decide) (Ne.symm hne.2.2.1) hlo.2.1).put (i := 1) (u := .slice A6 xs'.length C6) (b6.two.box.put 0 _) (by decide) (Ne.symm hne.2.2.1) hlo.2.1
              exact app_aft s9 IV.out.1 b9 HXS.out IV.out.2.1 IV.out.2.2.1 IV.out.2.2.2 HT.out hxm hi30
            obtain ⟨W9, hW9⟩ : ∃ W9, W9 = (w6.setCell ⟨Y, 0, none⟩ (.string T1)).setCell ⟨Y, 1, none⟩ (.slice A6 xs'.length C6) := ⟨_, rfl⟩
            have o39 : W9.cell? ⟨Z, 3, none⟩ = some (.string x) := by rw [hW9]; exact ((k6.out.off hXY hZY).off hXY hZY).2.2
            rw [← hW9] at HC9 ⊢
            clear x0 x1 o3 y0w y1w z1w z2w y0b y1b z1b z2b R5 B5 R66 B6 k5 k6 KS S2 BX2 OP2 IV hW9 HXS HX1 HXN HXl
            go_wp2_with fail
            refine HC9.out.mono ?_
            rintro e w6 ⟨E, rfl, haft⟩
            have HA := Lib.hid haft
            obtain ⟨x0, x1, y0', y1', r0, r1, r2, r3⟩ := haft.cells
            have hXl : X < w6.heap.size := World.block_lt_of_cell? _ _ x0
            have hYl : Y < w6.heap.size := World.block_lt_of_cell? _ _ y0'
            clear haft
            by_cases e4 : E = 4
            · subst e4
              have HIS := Lib.hid HA.out.is
              go_wp2_with fail
              refine HIS.out.mono ?_
              rintro e w7 ⟨rfl, hb7⟩
              have HN : Hid (SuI w F #[.int .i64 f0, .int .i64 f1, .int .i64 f2, .int .i64 f3] p b J X Y (i + 1) ((w7.setCell ⟨Y, 0, none⟩ (.string T1)).setCell ⟨Y, 1, none⟩ (.slice a1 xs1.length c1))) :=
                HA.out.next4 hb7
              obtain ⟨hc, hf⟩ := bcell hb7
              have x0' : w7.cell? ⟨X, 0, none⟩ = some (.string T1) := (hc X 0 hXl).trans x0
              have x1' : w7.cell? ⟨X, 1, none⟩ = some (.slice a1 xs1.length c1) := (hc X 1 hXl).trans x1
              have y0'' : w7.cell? ⟨Y, 0, none⟩ = some (.string T1) := (hc Y 0 hYl).trans y0'
              have y1'' : w7.cell? ⟨Y, 1, none⟩ = some (.slice A6 xs'.length C6) := (hc Y 1 hYl).trans y1'
              have r2' := (hf Y 0 hYl).trans r2
              have r3' := (hf Y 1 hYl).trans r3
              clear hb7 hc hf x0 x1 y0' y1' r0 r1 r2 r3
              go_wp2
              go_roundw
              case rel => exact ⟨i + 1, by omega, by go_num, HN⟩
              case measure => simp [intOf]; omega
            · have e40 : (E == 4) = false := by simpa using e4
              by_cases e0 : E = 0
              · subst e0
                have HN : Hid (SuI w F #[.int .i64 f0, .int .i64 f1, .int .i64 f2, .int .i64 f3] p b J X Y (i + 1) ((w6.setCell ⟨X, 0, none⟩ (.string T1)).setCell ⟨X, 1, none⟩ (.slice A6 xs'.length C6))) :=
                  HA.out.next0
                clear e4 e40
                go_wp2
                go_roundw
                case rel => exact ⟨i + 1, by omega, by go_num, HN⟩
                case measure => simp [intOf]; omega
              · have e00 : (E != 0) = true := by simpa using e0
                have HE : Hid (SuE w F #[.int .i64 f0, .int .i64 f1, .int .i64 f2, .int .i64 f3] p b X Y T1 a1 c1 xs1 T1 A6 C6 xs' w6) := HA.out.down e4 e0 (by omega)
                clear e4 e0 x0 x1 y0' y1' r0 r1 r2 r3 hXl hYl HA
                obtain ⟨w9, hw9⟩ : ∃ w9, w9 = w6 := ⟨_, rfl⟩
                rw [← hw9] at HE ⊢
                clear hw9
                obtain ⟨nn', jj, hr⟩ := HE.out.rdy
                have R0 := Lib.hid hr
                clear hr HE
                go_wp2_with fail
                refine R0.out.restart.mono ?_
                rintro e w10 ⟨rfl, h10, hk10⟩
                have R10 := Lib.hid h10
                have c2' : w10.cell? ⟨F, 2, none⟩ = some (.int .i64 f2) := h10.cells.2.2.2.2.cell 2
                have c3' : w10.cell? ⟨F, 3, none⟩ = some (.int .i64 f3) := h10.cells.2.2.2.2.cell 3
                clear h10 hk10 R0
                go_wp2_with fail
                refine (R10.out.fuse hf2).mono ?_
                rintro e w11 ⟨rfl, h11, hk11⟩
                have R11 := Lib.hid h11
                clear h11 hk11 R10 c2' c3'
                go_wp2_with fail
                refine (R11.out.open_ (by omega) HT.out).mono ?_
                rintro e w12 ⟨J1, rfl, h12, v12, hk12⟩
                have R12 := Lib.hid h12
                have V1 := Lib.hid v12
                clear h12 v12 hk12 R11
                go_wp2_with fail
                refine R12.out.restart.mono ?_
                rintro e w13 ⟨rfl, h13, hk13⟩
                have R13 := Lib.hid h13
                have V13 := Lib.hid (V1.out.but hk13)
                clear h13 hk13 R12 V1
                go_wp2_with fail
                refine (R13.out.open_ (by omega) HT.out).mono ?_
                rintro e w14 ⟨J2, rfl, h14, v14, hk14⟩
                have R14 := Lib.hid h14
                have V2 := Lib.hid v14
                have V14 := Lib.hid (V13.out.but hk14)
                clear h14 v14 hk14 R13 V13
                go_wp2_with fail
                refine (R14.out.open_ (by omega) HT.out).mono ?_
                rintro e w15 ⟨J3, rfl, h15, v15, hk15⟩
                have R15 := Lib.hid h15
                have V3 := Lib.hid v15
                have U2 := Lib.hid (V2.out.but hk15)
                have U1 := Lib.hid (V14.out.but hk15)
                obtain ⟨x0, x1, y0, y1, _⟩ := h15.cells
                have hyl15 : Y < w15.heap.size := World.block_lt_of_cell? _ _ y0
                have BG := Lib.hid h15.big
                clear h15 v15 hk15 R14 V14 V2
                obtain ⟨TT, hTT⟩ : ∃ TT, TT = str (jj.L.headD []) := ⟨_, rfl⟩
                obtain ⟨ys, hys⟩ : ∃ ys, ys = jj.L.tail.map str := ⟨_, rfl⟩
                obtain ⟨KK, hKK⟩ : ∃ KK, KK = (til nn' jj.half : Int) - (jj.next : Int) := ⟨_, rfl⟩
                have EQ := Lib.hid (And.intro hTT (And.intro hys hKK))
                clear hTT hys hKK
                have HI1 := Lib.hid (R15.out.is1 U2.out)
                cases htl : tells jj T1 xs1 with
                | true =>
                  rw [htl] at HI1
                  clear htl
                  go_wp2_with fail
                  refine HI1.out.mono ?_
                  rintro e w16 ⟨rfl, hb16⟩
                  have V1' := Lib.hid (U1.out.up hb16)
                  have V2' := Lib.hid (U2.out.up hb16)
                  have V3' := Lib.hid (V3.out.up hb16)
                  have BB := Lib.hid (lots R15.out.bel hb16)
                  clear hb16 x0 x1 y0 y1 U1 U2 V3 HI1 R15
                  go_wp2_with fail
                  refine (V2'.out.text TT EQ.out.1).mono ?_
                  rintro e w' ⟨rfl, rfl⟩
                  go_wp2_with fail
                  refine (V2'.out.records BG.out.2 BG.out.1 ys EQ.out.2.1).mono ?_
                  rintro e w17 ⟨a3, c3, rfl, hs17, _, hb17⟩
                  have hal := boxed w17 (.cells #[.string TT, .slice a3 ys.length c3] 37)
                  have hN17 := Has.fresh w17 37 #[.string TT, .slice a3 ys.length c3]
                  obtain ⟨W17, hW17⟩ : ∃ W17, W17 = w17.alloc (.cells #[.string TT, .slice a3 ys.length c3] 37) := ⟨_, rfl⟩
                  rw [← hW17] at hal hN17
                  have V1a := Lib.hid (V1'.out.up (lots hb17 hal))
                  have V2a := Lib.hid (V2'.out.up (lots hb17 hal))
                  have V3a := Lib.hid (V3'.out.up (lots hb17 hal))
                  have SA := Lib.hid (hs17.up hal)
                  have BB2 := Lib.hid (lots BB.out (lots hb17 hal))
                  have HW17 := Lib.hid hW17
                  obtain ⟨NB, hNB⟩ : ∃ NB, NB = w17.heap.size := ⟨_, rfl⟩
                  rw [← hNB] at hN17
                  have HNB := Lib.hid hNB
                  have NN := Lib.hid hN17
                  have t0 : W17.cell? ⟨NB, 0, none⟩ = some (.string TT) := hN17.cell 0
                  have t1 : W17.cell? ⟨NB, 1, none⟩ = some (.slice a3 ys.length c3) := hN17.cell 1
                  clear hs17 hb17 hal hN17 hW17 hNB V1' V2' V3' BB
                  go_wp2_with fail
                  rw [← HW17.out, ← HNB.out]
                  refine (V3a.out.is BG.out.2 BG.out.1 TT EQ.out.1 ys EQ.out.2.1 a3 c3 SA.out).mono ?_
                  rintro e w18 ⟨rfl, hb18⟩
                  have V1b := Lib.hid (V1a.out.up hb18)
                  have V2b := Lib.hid (V2a.out.up hb18)
                  have V3b := Lib.hid (V3a.out.up hb18)
                  have SB := Lib.hid (SA.out.up hb18)
                  have BB3 := Lib.hid (lots BB2.out hb18)
                  have NN2 := Lib.hid (NN.out.up hb18)
                  clear hb18 V1a V2a V3a SA BB2 t0 t1 NN
                  go_wp2_with fail
                  refine (V3b.out.room BG.out.2 BG.out.1 KK EQ.out.2.2).mono ?_
                  rintro e w19 ⟨rfl, q19, rfl⟩
                  have hd19 : Below w18.heap.size w18 (w18.drewN q19) := ⟨rfl, rfl, rfl, Nat.le_refl _, fun _ _ => rfl⟩
                  have V1c := Lib.hid (V1b.out.up hd19)
                  have V2c := Lib.hid (V2b.out.up hd19)
                  have SC := Lib.hid (SB.out.up hd19)
                  have BB4 := Lib.hid (lots BB3.out hd19)
                  have NN3 := Lib.hid (NN2.out.up hd19)
                  obtain ⟨w19, hw19⟩ : ∃ w19, w19 = w18.drewN q19 := ⟨_, rfl⟩
                  rw [← hw19] at V1c V2c SC BB4 NN3 ⊢
                  clear hd19 hw19 V1b V2b V3b SB BB3 NN2
                  go_wp2_with fail
                  refine (V2c.out.room BG.out.2 BG.out.1 KK EQ.out.2.2).mono ?_
                  rintro e w20 ⟨rfl, q20, rfl⟩
                  have hd20 : Below w19.heap.size w19 (w19.drewN q20) := ⟨rfl, rfl, rfl, Nat.le_refl _, fun _ _ => rfl⟩
                  have V1d := Lib.hid (V1c.out.up hd20)
                  have SD := Lib.hid (SC.out.up hd20)
                  have BB5 := Lib.hid (lots BB4.out hd20)
                  have nn4 := NN3.out.up hd20
                  obtain ⟨w20, hw20⟩ : ∃ w20, w20 = w19.drewN q20 := ⟨_, rfl⟩
                  rw [← hw20] at V1d SD BB5 nn4 ⊢
                  have t0 : w20.cell? ⟨NB, 0, none⟩ = some (.string TT) := nn4.cell 0
                  have t1 : w20.cell? ⟨NB, 1, none⟩ = some (.slice a3 ys.length c3) := nn4.cell 1
                  clear hd20 hw20 V1c V2c SC BB4 NN3 nn4
                  go_wp2_with fail
                  refine (V1d.out.is BG.out.2 BG.out.1 TT EQ.out.1 ys EQ.out.2.1 a3 c3 SD.out).mono ?_
                  rintro e w21 ⟨rfl, hb21⟩
                  have BB6 := Lib.hid (lots BB5.out hb21)
                  clear hb21 V1d SD BB5 t0 t1
                  go_wp2
                  go_ret
                  exact ⟨rfl, BB6.out⟩
                | false =>
                  have HI3 : Hid (∀ W : World, Below w15.heap.size w15 W → Calls Tryd.prog 12 #[.agg #[.string T1, .slice A6 xs'.length C6], .pointer (some ⟨J2, 0, none⟩)] W fun e w' => e = .returned (.bool true) ∧ Below W.heap.size W w') := fun W z => (R15.out.up z).is2 (U2.out.up z) htl
                  rw [htl] at HI1
                  clear htl
                  go_wp2_with fail
                  refine HI1.out.mono ?_
                  rintro e w16a ⟨rfl, hb16a⟩
                  have HI4 := Lib.hid (HI3.out w16a hb16a)
                  have y0a : w16a.cell? ⟨Y, 0, none⟩ = some (.string T1) := kcell hb16a y0
                  have y1a : w16a.cell? ⟨Y, 1, none⟩ = some (.slice A6 xs'.length C6) := kcell hb16a y1
                  have Bq := Lib.hid hb16a
                  clear hb16a x0 x1 y0 y1 HI1 HI3
                  go_wp2_with fail
                  refine HI4.out.mono ?_
                  rintro e w16 ⟨rfl, hb16⟩
                  have hb16' := lots Bq.out hb16
                  have V1' := Lib.hid (U1.out.up hb16')
                  have V2' := Lib.hid (U2.out.up hb16')
                  have V3' := Lib.hid (V3.out.up hb16')
                  have BB := Lib.hid (lots R15.out.bel hb16')
                  clear hb16 hb16' y0a y1a U1 U2 V3 R15 HI4 Bq
                  go_wp2_with fail
                  refine (V2'.out.text TT EQ.out.1).mono ?_
                  rintro e w' ⟨rfl, rfl⟩
                  go_wp2_with fail
                  refine (V2'.out.records BG.out.2 BG.out.1 ys EQ.out.2.1).mono ?_
                  rintro e w17 ⟨a3, c3, rfl, hs17, _, hb17⟩
                  have hal := boxed w17 (.cells #[.string TT, .slice a3 ys.length c3] 37)
                  have hN17 := Has.fresh w17 37 #[.string TT, .slice a3 ys.length c3]
                  obtain ⟨W17, hW17⟩ : ∃ W17, W17 = w17.alloc (.cells #[.string TT, .slice a3 ys.length c3] 37) := ⟨_, rfl⟩
                  rw [← hW17] at hal hN17
                  have V1a := Lib.hid (V1'.out.up (lots hb17 hal))
                  have V2a := Lib.hid (V2'.out.up (lots hb17 hal))
                  have V3a := Lib.hid (V3'.out.up (lots hb17 hal))
                  have SA := Lib.hid (hs17.up hal)
                  have BB2 := Lib.hid (lots BB.out (lots hb17 hal))
                  have HW17 := Lib.hid hW17
                  obtain ⟨NB, hNB⟩ : ∃ NB, NB = w17.heap.size := ⟨_, rfl⟩
                  rw [← hNB] at hN17
                  have HNB := Lib.hid hNB
                  have NN := Lib.hid hN17
                  have t0 : W17.cell? ⟨NB, 0, none⟩ = some (.string TT) := hN17.cell 0
                  have t1 : W17.cell? ⟨NB, 1, none⟩ = some (.slice a3 ys.length c3) := hN17.cell 1
                  clear hs17 hb17 hal hN17 hW17 hNB V1' V2' V3' BB
                  go_wp2_with fail
                  rw [← HW17.out, ← HNB.out]
                  refine (V3a.out.is BG.out.2 BG.out.1 TT EQ.out.1 ys EQ.out.2.1 a3 c3 SA.out).mono ?_
                  rintro e w18 ⟨rfl, hb18⟩
                  have V1b := Lib.hid (V1a.out.up hb18)
                  have V2b := Lib.hid (V2a.out.up hb18)
                  have V3b := Lib.hid (V3a.out.up hb18)
                  have SB := Lib.hid (SA.out.up hb18)
                  have BB3 := Lib.hid (lots BB2.out hb18)
                  have NN2 := Lib.hid (NN.out.up hb18)
                  clear hb18 V1a V2a V3a SA BB2 t0 t1 NN
                  go_wp2_with fail
                  refine (V3b.out.room BG.out.2 BG.out.1 KK EQ.out.2.2).mono ?_
                  rintro e w19 ⟨rfl, q19, rfl⟩
                  have hd19 : Below w18.heap.size w18 (w18.drewN q19) := ⟨rfl, rfl, rfl, Nat.le_refl _, fun _ _ => rfl⟩
                  have V1c := Lib.hid (V1b.out.up hd19)
                  have V2c := Lib.hid (V2b.out.up hd19)
                  have SC := Lib.hid (SB.out.up hd19)
                  have BB4 := Lib.hid (lots BB3.out hd19)
                  have NN3 := Lib.hid (NN2.out.up hd19)
                  obtain ⟨w19, hw19⟩ : ∃ w19, w19 = w18.drewN q19 := ⟨_, rfl⟩
                  rw [← hw19] at V1c V2c SC BB4 NN3 ⊢
                  clear hd19 hw19 V1b V2b V3b SB BB3 NN2
                  go_wp2_with fail
                  refine (V2c.out.room BG.out.2 BG.out.1 KK EQ.out.2.2).mono ?_
                  rintro e w20 ⟨rfl, q20, rfl⟩
                  have hd20 : Below w19.heap.size w19 (w19.drewN q20) := ⟨rfl, rfl, rfl, Nat.le_refl _, fun _ _ => rfl⟩
                  have V1d := Lib.hid (V1c.out.up hd20)
                  have SD := Lib.hid (SC.out.up hd20)
                  have BB5 := Lib.hid (lots BB4.out hd20)
                  have nn4 := NN3.out.up hd20
                  obtain ⟨w20, hw20⟩ : ∃ w20, w20 = w19.drewN q20 := ⟨_, rfl⟩
                  rw [← hw20] at V1d SD BB5 nn4 ⊢
                  have t0 : w20.cell? ⟨NB, 0, none⟩ = some (.string TT) := nn4.cell 0
                  have t1 : w20.cell? ⟨NB, 1, none⟩ = some (.slice a3 ys.length c3) := nn4.cell 1
                  clear hd20 hw20 V1c V2c SC BB4 NN3 nn4
                  go_wp2_with fail
                  refine (V1d.out.is BG.out.2 BG.out.1 TT EQ.out.1 ys EQ.out.2.1 a3 c3 SD.out).mono ?_
                  rintro e w21 ⟨rfl, hb21⟩
                  have BB6 := Lib.hid (lots BB5.out hb21)
                  clear hb21 V1d SD BB5 t0 t1
                  go_wp2
                  go_ret
                  exact ⟨rfl, BB6.out⟩

      · obtain rfl : i = len := by omega
        have HE : Hid (SuE w F #[.int .i64 f0, .int .i64 f1, .int .i64 f2, .int .i64 f3] p b X Y T1 a1 c1 xs1 T2 a2 c2 xs2 wr) := ⟨⟨R, s, j, g1, g2, hs.jat.at_.fine_more (by omega), hinv, hne, hs.bel, hb, .inl h1⟩, hs.lo.2.2⟩
        clear hs hinv hb h1 hl1 hne HI
        obtain ⟨w9, hw9⟩ : ∃ w9, w9 = wr := ⟨_, rfl⟩
        rw [← hw9] at HE ⊢
        clear hw9
        obtain ⟨nn', jj, hr⟩ := HE.out.rdy
        have R0 := Lib.hid hr
        clear hr HE
        go_wp2_with fail
        refine R0.out.restart.mono ?_
        rintro e w10 ⟨rfl, h10, hk10⟩
        have R10 := Lib.hid h10
        have c2' : w10.cell? ⟨F, 2, none⟩ = some (.int .i64 f2) := h10.cells.2.2.2.2.cell 2
        have c3' : w10.cell? ⟨F, 3, none⟩ = some (.int .i64 f3) := h10.cells.2.2.2.2.cell 3
        clear h10 hk10 R0
        go_wp2_with fail
        refine (R10.out.fuse hf2).mono ?_
        rintro e w11 ⟨rfl, h11, hk11⟩
        have R11 := Lib.hid h11
        clear h11 hk11 R10 c2' c3'
        go_wp2_with fail
        refine (R11.out.open_ (by omega) HT.out).mono ?_
        rintro e w12 ⟨J1, rfl, h12, v12, hk12⟩
        have R12 := Lib.hid h12
        have V1 := Lib.hid v12
        clear h12 v12 hk12 R11
        go_wp2_with fail
        refine R12.out.restart.mono ?_
        rintro e w13 ⟨rfl, h13, hk13⟩
        have R13 := Lib.hid h13
        have V13 := Lib.hid (V1.out.but hk13)
        clear h13 hk13 R12 V1
        go_wp2_with fail
        refine (R13.out.open_ (by omega) HT.out).mono ?_
        rintro e w14 ⟨J2, rfl, h14, v14, hk14⟩
        have R14 := Lib.hid h14
        have V2 := Lib.hid v14
        have V14 := Lib.hid (V13.out.but hk14)
        clear h14 v14 hk14 R13 V13
        go_wp2_with fail
        refine (R14.out.open_ (by omega) HT.out).mono ?_
        rintro e w15 ⟨J3, rfl, h15, v15, hk15⟩
        have R15 := Lib.hid h15
        have V3 := Lib.hid v15
        have U2 := Lib.hid (V2.out.but hk15)
        have U1 := Lib.hid (V14.out.but hk15)
        obtain ⟨x0, x1, y0, y1, _⟩ := h15.cells
        have hyl15 : Y < w15.heap.size := World.block_lt_of_cell? _ _ y0
        have BG := Lib.hid h15.big
        clear h15 v15 hk15 R14 V14 V2
        obtain ⟨TT, hTT⟩ : ∃ TT, TT = str (jj.L.headD []) := ⟨_, rfl⟩
        obtain ⟨ys, hys⟩ : ∃ ys, ys = jj.L.tail.map str := ⟨_, rfl⟩
        obtain ⟨KK, hKK⟩ : ∃ KK, KK = (til nn' jj.half : Int) - (jj.next : Int) := ⟨_, rfl⟩
        have EQ := Lib.hid (And.intro hTT (And.intro hys hKK))
        clear hTT hys hKK
        have HI1 := Lib.hid (R15.out.is1 U2.out)
        cases htl : tells jj T1 xs1 with
        | true =>
          rw [htl] at HI1
          clear htl
          go_wp2_with fail
          refine HI1.out.mono ?_
          rintro e w16 ⟨rfl, hb16⟩
          have V1' := Lib.hid (U1.out.up hb16)
          have V2' := Lib.hid (U2.out.up hb16)
          have V3' := Lib.hid (V3.out.up hb16)
          have BB := Lib.hid (lots R15.out.bel hb16)
          clear hb16 x0 x1 y0 y1 U1 U2 V3 HI1 R15
          go_wp2_with fail
          refine (V2'.out.text TT EQ.out.1).mono ?_
          rintro e w' ⟨rfl, rfl⟩
          go_wp2_with fail
          refine (V2'.out.records BG.out.2 BG.out.1 ys EQ.out.2.1).mono ?_
          rintro e w17 ⟨a3, c3, rfl, hs17, _, hb17⟩
          have hal := boxed w17 (.cells #[.string TT, .slice a3 ys.length c3] 37)
          have hN17 := Has.fresh w17 37 #[.string TT, .slice a3 ys.length c3]
          obtain ⟨W17, hW17⟩ : ∃ W17, W17 = w17.alloc (.cells #[.string TT, .slice a3 ys.length c3] 37) := ⟨_, rfl⟩
          rw [← hW17] at hal hN17
          have V1a := Lib.hid (V1'.out.up (lots hb17 hal))
          have V2a := Lib.hid (V2'.out.up (lots hb17 hal))
          have V3a := Lib.hid (V3'.out.up (lots hb17 hal))
          have SA := Lib.hid (hs17.up hal)
          have BB2 := Lib.hid (lots BB.out (lots hb17 hal))
          have HW17 := Lib.hid hW17
          obtain ⟨NB, hNB⟩ : ∃ NB, NB = w17.heap.size := ⟨_, rfl⟩
          rw [← hNB] at hN17
          have HNB := Lib.hid hNB
          have NN := Lib.hid hN17
          have t0 : W17.cell? ⟨NB, 0, none⟩ = some (.string TT) := hN17.cell 0
          have t1 : W17.cell? ⟨NB, 1, none⟩ = some (.slice a3 ys.length c3) := hN17.cell 1
          clear hs17 hb17 hal hN17 hW17 hNB V1' V2' V3' BB
          go_wp2_with fail
          rw [← HW17.out, ← HNB.out]
          refine (V3a.out.is BG.out.2 BG.out.1 TT EQ.out.1 ys EQ.out.2.1 a3 c3 SA.out).mono ?_
          rintro e w18 ⟨rfl, hb18⟩
          have V1b := Lib.hid (V1a.out.up hb18)
          have V2b := Lib.hid (V2a.out.up hb18)
          have V3b := Lib.hid (V3a.out.up hb18)
          have SB := Lib.hid (SA.out.up hb18)
          have BB3 := Lib.hid (lots BB2.out hb18)
          have NN2 := Lib.hid (NN.out.up hb18)
          clear hb18 V1a V2a V3a SA BB2 t0 t1 NN
          go_wp2_with fail
          refine (V3b.out.room BG.out.2 BG.out.1 KK EQ.out.2.2).mono ?_
          rintro e w19 ⟨rfl, q19, rfl⟩
          have hd19 : Below w18.heap.size w18 (w18.drewN q19) := ⟨rfl, rfl, rfl, Nat.le_refl _, fun _ _ => rfl⟩
          have V1c := Lib.hid (V1b.out.up hd19)
          have V2c := Lib.hid (V2b.out.up hd19)
          have SC := Lib.hid (SB.out.up hd19)
          have BB4 := Lib.hid (lots BB3.out hd19)
          have NN3 := Lib.hid (NN2.out.up hd19)
          obtain ⟨w19, hw19⟩ : ∃ w19, w19 = w18.drewN q19 := ⟨_, rfl⟩
          rw [← hw19] at V1c V2c SC BB4 NN3 ⊢
          clear hd19 hw19 V1b V2b V3b SB BB3 NN2
          go_wp2_with fail
          refine (V2c.out.room BG.out.2 BG.out.1 KK EQ.out.2.2).mono ?_
          rintro e w20 ⟨rfl, q20, rfl⟩
          have hd20 : Below w19.heap.size w19 (w19.drewN q20) := ⟨rfl, rfl, rfl, Nat.le_refl _, fun _ _ => rfl⟩
          have V1d := Lib.hid (V1c.out.up hd20)
          have SD := Lib.hid (SC.out.up hd20)
          have BB5 := Lib.hid (lots BB4.out hd20)
          have nn4 := NN3.out.up hd20
          obtain ⟨w20, hw20⟩ : ∃ w20, w20 = w19.drewN q20 := ⟨_, rfl⟩
          rw [← hw20] at V1d SD BB5 nn4 ⊢
          have t0 : w20.cell? ⟨NB, 0, none⟩ = some (.string TT) := nn4.cell 0
          have t1 : w20.cell? ⟨NB, 1, none⟩ = some (.slice a3 ys.length c3) := nn4.cell 1
          clear hd20 hw20 V1c V2c SC BB4 NN3 nn4
          go_wp2_with fail
          refine (V1d.out.is BG.out.2 BG.out.1 TT EQ.out.1 ys EQ.out.2.1 a3 c3 SD.out).mono ?_
          rintro e w21 ⟨rfl, hb21⟩
          have BB6 := Lib.hid (lots BB5.out hb21)
          clear hb21 V1d SD BB5 t0 t1
          go_wp2
          go_ret
          exact ⟨rfl, BB6.out⟩
        | false =>
          have HI3 : Hid (∀ W : World, Below w15.heap.size w15 W → Calls Tryd.prog 12 #[.agg #[.string T2, .slice a2 xs2.length c2], .pointer (some ⟨J2, 0, none⟩)] W fun e w' => e = .returned (.bool true) ∧ Below W.heap.size W w') := fun W z => (R15.out.up z).is2 (U2.out.up z) htl
          rw [htl] at HI1
          clear htl
          go_wp2_with fail
          refine HI1.out.mono ?_
          rintro e w16a ⟨rfl, hb16a⟩
          have HI4 := Lib.hid (HI3.out w16a hb16a)
          have y0a : w16a.cell? ⟨Y, 0, none⟩ = some (.string T2) := kcell hb16a y0
          have y1a : w16a.cell? ⟨Y, 1, none⟩ = some (.slice a2 xs2.length c2) := kcell hb16a y1
          have Bq := Lib.hid hb16a
          clear hb16a x0 x1 y0 y1 HI1 HI3
          go_wp2_with fail
          refine HI4.out.mono ?_
          rintro e w16 ⟨rfl, hb16⟩
          have hb16' := lots Bq.out hb16
          have V1' := Lib.hid (U1.out.up hb16')
          have V2' := Lib.hid (U2.out.up hb16')
          have V3' := Lib.hid (V3.out.up hb16')
          have BB := Lib.hid (lots R15.out.bel hb16')
          clear hb16 hb16' y0a y1a U1 U2 V3 R15 HI4 Bq
          go_wp2_with fail
          refine (V2'.out.text TT EQ.out.1).mono ?_
          rintro e w' ⟨rfl, rfl⟩
          go_wp2_with fail
          refine (V2'.out.records BG.out.2 BG.out.1 ys EQ.out.2.1).mono ?_
          rintro e w17 ⟨a3, c3, rfl, hs17, _, hb17⟩
          have hal := boxed w17 (.cells #[.string TT, .slice a3 ys.length c3] 37)
          have hN17 := Has.fresh w17 37 #[.string TT, .slice a3 ys.length c3]
          obtain ⟨W17, hW17⟩ : ∃ W17, W17 = w17.alloc (.cells #[.string TT, .slice a3 ys.length c3] 37) := ⟨_, rfl⟩
          rw [← hW17] at hal hN17
          have V1a := Lib.hid (V1'.out.up (lots hb17 hal))
          have V2a := Lib.hid (V2'.out.up (lots hb17 hal))
          have V3a := Lib.hid (V3'.out.up (lots hb17 hal))
          have SA := Lib.hid (hs17.up hal)
          have BB2 := Lib.hid (lots BB.out (lots hb17 hal))
          have HW17 := Lib.hid hW17
          obtain ⟨NB, hNB⟩ : ∃ NB, NB = w17.heap.size := ⟨_, rfl⟩
          rw [← hNB] at hN17
          have HNB := Lib.hid hNB
          have NN := Lib.hid hN17
          have t0 : W17.cell? ⟨NB, 0, none⟩ = some (.string TT) := hN17.cell 0
          have t1 : W17.cell? ⟨NB, 1, none⟩ = some (.slice a3 ys.length c3) := hN17.cell 1
          clear hs17 hb17 hal hN17 hW17 hNB V1' V2' V3' BB
          go_wp2_with fail
          rw [← HW17.out, ← HNB.out]
          refine (V3a.out.is BG.out.2 BG.out.1 TT EQ.out.1 ys EQ.out.2.1 a3 c3 SA.out).mono ?_
          rintro e w18 ⟨rfl, hb18⟩
          have V1b := Lib.hid (V1a.out.up hb18)
          have V2b := Lib.hid (V2a.out.up hb18)
          have V3b := Lib.hid (V3a.out.up hb18)
          have SB := Lib.hid (SA.out.up hb18)
          have BB3 := Lib.hid (lots BB2.out hb18)
          have NN2 := Lib.hid (NN.out.up hb18)
          clear hb18 V1a V2a V3a SA BB2 t0 t1 NN
          go_wp2_with fail
          refine (V3b.out.room BG.out.2 BG.out.1 KK EQ.out.2.2).mono ?_
          rintro e w19 ⟨rfl, q19, rfl⟩
          have hd19 : Below w18.heap.size w18 (w18.drewN q19) := ⟨rfl, rfl, rfl, Nat.le_refl _, fun _ _ => rfl⟩
          have V1c := Lib.hid (V1b.out.up hd19)
          have V2c := Lib.hid (V2b.out.up hd19)
          have SC := Lib.hid (SB.out.up hd19)
          have BB4 := Lib.hid (lots BB3.out hd19)
          have NN3 := Lib.hid (NN2.out.up hd19)
          obtain ⟨w19, hw19⟩ : ∃ w19, w19 = w18.drewN q19 := ⟨_, rfl⟩
          rw [← hw19] at V1c V2c SC BB4 NN3 ⊢
          clear hd19 hw19 V1b V2b V3b SB BB3 NN2
          go_wp2_with fail
          refine (V2c.out.room BG.out.2 BG.out.1 KK EQ.out.2.2).mono ?_
          rintro e w20 ⟨rfl, q20, rfl⟩
          have hd20 : Below w19.heap.size w19 (w19.drewN q20) := ⟨rfl, rfl, rfl, Nat.le_refl _, fun _ _ => rfl⟩
          have V1d := Lib.hid (V1c.out.up hd20)
          have SD := Lib.hid (SC.out.up hd20)
          have BB5 := Lib.hid (lots BB4.out hd20)
          have nn4 := NN3.out.up hd20
          obtain ⟨w20, hw20⟩ : ∃ w20, w20 = w19.drewN q20 := ⟨_, rfl⟩
          rw [← hw20] at V1d SD BB5 nn4 ⊢
          have t0 : w20.cell? ⟨NB, 0, none⟩ = some (.string TT) := nn4.cell 0
          have t1 : w20.cell? ⟨NB, 1, none⟩ = some (.slice a3 ys.length c3) := nn4.cell 1
          clear hd20 hw20 V1c V2c SC BB4 NN3 nn4
          go_wp2_with fail
          refine (V1d.out.is BG.out.2 BG.out.1 TT EQ.out.1 ys EQ.out.2.1 a3 c3 SD.out).mono ?_
          rintro e w21 ⟨rfl, hb21⟩
          have BB6 := Lib.hid (lots BB5.out hb21)
          clear hb21 V1d SD BB5 t0 t1
          go_wp2
          go_ret
          exact ⟨rfl, BB6.out⟩
  · go_wp2
    go_ret
    exact ⟨rfl, B1.out⟩
end Go.Proofs.YtjffcgimdffkoaaDoor
