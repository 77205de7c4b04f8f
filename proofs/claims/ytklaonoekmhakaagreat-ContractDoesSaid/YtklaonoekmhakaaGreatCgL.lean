/- ContractDoes: its core. -/
import Derived.Test.YtklaonoekmhakaaGreatDrD
import Derived.Test.YtklaonoekmhakaaGreatCfS
import Derived.Test.YtklaonoekmhakaaGreatBqA
import Derived.Test.YtklaonoekmhakaaGreatDrA
namespace Go.Proofs.YtklaonoekmhakaaGreat
open Go.RowKit

/-- lists of obligations are short -/
def LsOk (S : Ct) : Prop := ∀ x ∈ S.T, x.d.ls.length ≤ 1000
section
variable {S : Ct}
theorem ls_map {T : List Trk} {g : Nat → Trk → Trk} (h : ∀ x ∈ T, x.d.ls.length ≤ 1000) (hg : ∀ t x, (g t x).d = x.d) : ∀ x ∈ T.mapIdx g, x.d.ls.length ≤ 1000 := fun x hx => by
  obtain ⟨t, ht⟩ := List.getElem?_of_mem hx
  have hl := (List.getElem?_eq_some_iff.1 ht).1
  rw [List.length_mapIdx] at hl
  rw [List.getElem?_mapIdx, List.getElem?_eq_getElem hl] at ht
  injection ht with ht
  subst ht
  rw [hg]
  exact h _ (List.getElem_mem hl)
theorem LsOk.op (h : LsOk S) (x : Op4) : LsOk (S.opS x) := by
  unfold Ct.opS
  split
  · unfold Ct.onwS
    split
    · exact ls_map h fun _ _ => rfl
    · exact h
  · split
    · unfold Ct.afrS
      split
      · exact ls_map h fun _ _ => rfl
      · exact h
    · unfold Ct.telS
      split
      · exact h
      · rename_i q
        have ht : x.du.toNat < S.n := by omega
        intro y hy
        rcases List.mem_or_eq_of_mem_set hy with z | z
        · exact h y z
        · rw [z]; exact h (S.tr x.du.toNat) (Ct.mem ht)
theorem ask_ls {x : Askd} (F : FineB x.S) (q : x.E = 0) : LsOk x.C := fun y hy => by
  have hz := Askd.zero q
  obtain ⟨t, ht⟩ := List.getElem?_of_mem hy
  have hl := (List.getElem?_eq_some_iff.1 ht).1
  rw [askd_len] at hl
  have e := askd_tr x hl
  rw [List.getD_eq_getElem?_getD, ht] at e
  have e : y = _ := e
  rw [e]
  show ((((findV x.S x.l x.d).getD t du0).ls).map _).length ≤ 1000
  rw [List.length_map]
  have hl2 : t < (findV x.S x.l x.d).length := hl
  rw [List.getD_eq_getElem?_getD, List.getElem?_eq_getElem hl2]
  have := (find_ok F hz.fnd _ (List.getElem_mem hl2)).2.2.2.2
  show (_ : Nat) ≤ 1000
  exact Nat.le_trans this (by omega)
theorem ct_altA (k : Int) : S.altA k = if k < 0 ∨ (S.n : Int) ≤ k then 0 else S.alt k.toNat := by
  unfold Ct.altA Ct.has
  by_cases q : k < 0 ∨ (S.n : Int) ≤ k
  · rw [if_pos q, if_neg]; simp; omega
  · rw [if_neg q, if_pos]; simp; omega
theorem ct_earA (k day : Int) : S.earA k day = if k < 0 ∨ (S.n : Int) ≤ k then 0 else S.ear day k.toNat := by
  unfold Ct.earA Ct.has
  by_cases q : k < 0 ∨ (S.n : Int) ≤ k
  · rw [if_pos q, if_neg]; simp; omega
  · rw [if_neg q, if_pos]; simp; omega
end
/-- what is read of both contracts -/
structure Rds (w : World) (c r : Nat) (S : Ct) (day : Int) : Prop where
  pri : Calls Tryz.prog 16 #[.pointer (some ⟨c, 0, none⟩)] w fun e w' => e = .returned (.int .i64 S.N) ∧ Below w.heap.size w w'
  dy : Calls Tryz.prog 17 #[.pointer (some ⟨c, 0, none⟩)] w fun e w' => e = .returned (.int .i64 S.la) ∧ Below w.heap.size w w'
  man : Calls Tryz.prog 18 #[.pointer (some ⟨c, 0, none⟩)] w fun e w' => e = .returned (.int .i64 (S.n : Int)) ∧ Below w.heap.size w w'
  all : Calls Tryz.prog 19 #[.pointer (some ⟨c, 0, none⟩), .int .i64 day] w fun e w' => e = .returned (.int .i64 (S.all day)) ∧ Below w.heap.size w w'
  qall : Calls Tryz.prog 20 #[.pointer (some ⟨r, 0, none⟩), .int .i64 day] w fun e w' => e = .returned (.int .i64 (S.all day)) ∧ Below w.heap.size w w'
  alt : ∀ k, Calls Tryz.prog 21 #[.pointer (some ⟨c, 0, none⟩), .int .i64 k] w fun e w' => e = .returned (.int .i64 (S.altA k)) ∧ Below w.heap.size w w'
  qalt : ∀ k, Calls Tryz.prog 22 #[.pointer (some ⟨r, 0, none⟩), .int .i64 k] w fun e w' => e = .returned (.int .i64 (S.altA k)) ∧ Below w.heap.size w w'
  ear : ∀ k, Calls Tryz.prog 23 #[.pointer (some ⟨c, 0, none⟩), .int .i64 k, .int .i64 day] w fun e w' => e = .returned (.int .i64 (S.earA k day)) ∧ Below w.heap.size w w'
  qear : ∀ k, Calls Tryz.prog 24 #[.pointer (some ⟨r, 0, none⟩), .int .i64 k, .int .i64 day] w fun e w' => e = .returned (.int .i64 (S.earA k day)) ∧ Below w.heap.size w w'
  dut : ∀ k, Calls Tryz.prog 25 #[.pointer (some ⟨c, 0, none⟩), .int .i64 k] w (DutR w S k)
/-- where an obligation of the reference's lies -/
structure LogAt (w : World) (tb tof t x1 x2 : Nat) (d : Dt) (la : Option Addr) (lc : Nat) : Prop where
  p : w.cell? ⟨tb, tof + t, none⟩ = some (.pointer (some ⟨x1, 0, none⟩))
  k : w.cell? ⟨x1, 0, none⟩ = some (.pointer (some ⟨x2, 0, none⟩))
  c0 : w.cell? ⟨x2, 0, none⟩ = some (.slice la d.ls.length lc)
  c1 : w.cell? ⟨x2, 1, none⟩ = some (.int .i64 d.al)
  c2 : w.cell? ⟨x2, 2, none⟩ = some (.int .i64 d.un)
  c3 : w.cell? ⟨x2, 3, none⟩ = some (.int .i64 d.me)
  c4 : w.cell? ⟨x2, 4, none⟩ = some (.int .i64 d.fi)
  c5 : w.cell? ⟨x2, 5, none⟩ = some (.int .i64 d.la)
  ls : InA w la d.ls
section
variable {Pc : World → (Nat → Prop) → Nat → Ct → Prop} {w0 w w' : World} {c r : Nat} {P : List (Nat × Nat)} {S : Ct}
theorem Dc.rds (K : PcK Pc) (h : Dc Pc w0 w c r P S S) (day : Int) : Rds w c r S day := by
  obtain ⟨⟨O, h1, _⟩, ⟨tv, hq⟩, _, _⟩ := h
  exact ⟨K.price h1, K.day h1, K.many h1, K.all day h1, qcall_any hq day, fun k => K.allot k h1, fun k => by rw [ct_altA]; exact qcallot_any hq k, fun k => K.earned k day h1, fun k => by rw [ct_earA]; exact qcearned_any hq k day, fun k => K.duty k h1⟩
theorem Dc.heads (h : Dc Pc w0 w c r P S S) : ∃ a k, w.cell? ⟨r, 0, none⟩ = some (.int .i64 S.N) ∧ w.cell? ⟨r, 1, none⟩ = some (.int .i64 S.la) ∧ w.cell? ⟨r, 3, none⟩ = some (.slice a S.n k) := by
  obtain ⟨_, ⟨tv, hq⟩, _, _⟩ := h
  obtain ⟨a, k, c3, _⟩ := hq.cell3
  exact ⟨a, k, by simpa using hq.has.cell 0, by simpa using hq.has.cell 1, c3⟩
theorem Dc.log (h : Dc Pc w0 w c r P S S) {t : Nat} (ht : t < S.n) : ∃ tb tof k x1 x2 la lc, w.cell? ⟨r, 3, none⟩ = some (.slice (some ⟨tb, tof, none⟩) S.n k) ∧ LogAt w tb tof t x1 x2 (S.tr t).d la lc := by
  obtain ⟨_, ⟨tv, hq⟩, _, _⟩ := h
  obtain ⟨a, k, c3, hrow⟩ := hq.cell3
  obtain ⟨x, hx⟩ : ∃ x, P[t]? = some x := ⟨P[t]'(by rw [hq.n]; exact ht), List.getElem?_eq_getElem _⟩
  obtain ⟨b, o, rfl, z0⟩ := pt_at hrow hx
  obtain ⟨sv, hx2⟩ : Tq w x.1 x.2 (S.tr t).d (S.tr t).E (S.tr t).L := hq.trs.at hx
  obtain ⟨la, lc, ev, hg⟩ := hx2.log
  exact ⟨b, o, k, x.1, x.2, la, lc, c3, z0, by simpa using hx2.has.cell 0, by simpa using hg.has.cell 0, by simpa using hg.has.cell 1, by simpa using hg.has.cell 2, by simpa using hg.has.cell 3, by simpa using hg.has.cell 4, by simpa using hg.has.cell 5, hg.lns.ina⟩
theorem LogAt.up {tb tof t x1 x2 : Nat} {d : Dt} {la : Option Addr} {lc : Nat} (h : LogAt w tb tof t x1 x2 d la lc) (q : Below w.heap.size w w') : LogAt w' tb tof t x1 x2 d la lc :=
  ⟨kcell q h.p, kcell q h.k, kcell q h.c0, kcell q h.c1, kcell q h.c2, kcell q h.c3, kcell q h.c4, kcell q h.c5, h.ls.up q⟩
end
set_option maxRecDepth 100000 in
set_option maxHeartbeats 32000000 in
theorem does16_law {Pc : World → (Nat → Prop) → Nat → Ct → Prop} (K : PcK Pc) (N : CfN (CfOf Pc)) (A : Aw16) (t : Tm) (p : TmP) (a : Option Addr) (cap : Nat) (l : List Op4) (day : Int) (w : World) (h : TmA w p t) (g : TmG t) (hR : O4A w a l) (hAm : AmP l) :
    Calls Tryz.prog 3 #[t.val p, .slice a l.length cap, .int .i64 day] w fun e w' => e = .returned (.bool true) ∧ Below w.heap.size w w' := by
  have HAw := Lib.hid A
  have HLg := Lib.hid (fun (W : World) => large16_any W t p l a cap)
  have HMade := Lib.hid (fun (W : World) (q : Below w.heap.size w W) (q1 : bigT t l = false) => made16_any N (h.up q) g (by unfold bigT at q1; simp at q1; omega) (by unfold bigT at q1; simp at q1; omega))
  have HLn : Hid (bigT t l = false → l.length ≤ 60) := Lib.hid (fun q1 => by unfold bigT at q1; simp at q1; omega)
  have HOwn := Lib.hid (fun (W : World) (q : Below w.heap.size w W) (q1 : bigT t l = false) => own16_any t.I t.l t.m t.b t.d p.ia p.la p.ma p.ic p.lc p.mc (h.I.up q) h.ic (fun y hy => (g.I y hy).2.2.2) (h.l.up q) (by unfold bigT at q1; simp at q1; omega) (fun y hy => ⟨(g.l y hy).2.1, (g.l y hy).2.2.1⟩) (h.m.up q) (by unfold bigT at q1; simp at q1; omega) g.m)
  unfold QOwnR QCnR at HOwn
  rw [show askI t.I t.l t.m t.b t.d = askT t from rfl] at HOwn
  have HLsk : Hid (madeE t = 0 → LsOk (askT t).C) := Lib.hid fun q => by
    unfold madeE at q
    split at q
    · rename_i z; exact absurd q z
    · rename_i z
      exact ask_ls (fine_ofT (by simpa using z) fun y hy => (g.I y hy).2.2.2) q
  have HME : Hid (madeE t = if bnewE t.I ≠ 0 then bnewE t.I else (askT t).E) := Lib.hid rfl
  unfold MadeR at HMade
  have HK := Lib.hid K
  have HR := Lib.hid hR
  have HAm := Lib.hid hAm
  obtain ⟨n, hn⟩ : ∃ n, n = l.length := ⟨_, rfl⟩
  have HN := Lib.hid hn
  rw [← hn] at HLg HLn ⊢
  obtain ⟨big, hbig⟩ : ∃ b, b = bigT t l := ⟨_, rfl⟩
  rw [← hbig] at HLg HMade HLn HOwn
  unfold Tm.val at HLg HMade ⊢
  obtain ⟨C0, hC0⟩ : ∃ C, C = (askT t).C := ⟨_, rfl⟩
  rw [← hC0] at HMade HOwn HLsk
  generalize madeE t = me at HMade HME HLsk
  generalize bnewE t.I = be at HOwn HME
  generalize (askT t).E = xe at HOwn HME
  obtain ⟨I, L, m, b, d⟩ := t
  obtain ⟨ia, ic, la, lc, ma, mc⟩ := p
  simp only at HLg HMade HOwn ⊢
  generalize I.length = ni at HLg HMade HOwn ⊢
  generalize L.length = nl at HLg HMade HOwn ⊢
  generalize m.length = nm at HLg HMade HOwn ⊢
  clear h g hR hAm hn hbig hC0 K N A
  go_enter Tryz.func3, Tryz.ntmps3
  go_wp2_with fail
  have HXB := Lib.hid (Has.fresh w 26 #[.slice ia ni ic, .slice la nl lc, .slice ma nm mc, .int .i64 b, .int .i64 d])
  refine (HAw.out _).mono ?_
  rintro e w1 ⟨rfl, hb⟩
  have hx := HXB.out.up hb
  have x0 := hx.cell 0
  have x1 := hx.cell 1
  have x2 := hx.cell 2
  have x3 := hx.cell 3
  have x4 := hx.cell 4
  simp at x0 x1 x2 x3 x4
  have HX1 := Lib.hid hx
  have HB1 := Lib.hid (up2 (boxed _ _) hb)
  clear hb hx
  go_wp2_with fail
  refine (HLg.out _).mono ?_
  rintro e w2 ⟨rfl, hb⟩
  have HB2 := Lib.hid (up2 HB1.out hb)
  have hx := HX1.out.up hb
  have HX2 := Lib.hid hx
  clear x0 x1 x2 x3 x4
  have x0 := hx.cell 0
  have x1 := hx.cell 1
  have x2 := hx.cell 2
  have x3 := hx.cell 3
  have x4 := hx.cell 4
  simp at x0 x1 x2 x3 x4
  clear hb hx
  cases hq : big with
  | true =>
    clear hq
    go_wp2_with fail
    go_ret
    exact ⟨rfl, HB2.out⟩
  | false =>
  have HM := Lib.hid (HMade.out _ HB2.out hq)
  have HOw := Lib.hid (fun (W : World) (q : Below w.heap.size w W) => HOwn.out W q hq)
  have HCK := Lib.hid (cfk_of HK.out)
  have hn60 := HLn.out hq
  clear hq
  go_wp2_with fail
  refine HM.out.mono ?_
  rintro e w3 (⟨q, rfl, hb⟩ | ⟨q, w0, c, hb, rfl, hc⟩)
  · have HB3 := Lib.hid (up2 HB2.out hb)
    have hx := HX2.out.up hb
    have HO3 := Lib.hid (HOw.out _ HB3.out)
    have HQ := Lib.hid q
    clear q hb x0 x1 x2 x3 x4
    have x0 := hx.cell 0
    have x1 := hx.cell 1
    have x2 := hx.cell 2
    have x3 := hx.cell 3
    have x4 := hx.cell 4
    simp at x0 x1 x2 x3 x4
    clear hx
    go_wp2_with fail
    have HO4 : Hid (Calls Tryz.prog 11 #[.agg #[.slice ia ni ic, .slice la nl lc, .slice ma nm mc, .int .i64 b, .int .i64 d]] w3 fun e w' => e = .returned (.tuple #[.pointer none, .int .i64 me]) ∧ Below w3.heap.size w3 w') := Lib.hid (HO3.out.mono fun e w' z => by
      have hm := HME.out
      have hq := HQ.out
      rcases z with ⟨q, rfl, hb⟩ | ⟨q, hb, ⟨q2, rfl⟩ | ⟨q2, _⟩⟩
      · rw [if_pos q] at hm
        exact ⟨by rw [hm], hb⟩
      · rw [if_neg (by simpa using q)] at hm
        exact ⟨by rw [hm], hb⟩
      · rw [if_neg (by simpa using q), q2] at hm
        exact absurd hm hq)
    refine HO4.out.mono ?_
    rintro e w4 ⟨rfl, hb⟩
    have HB4 := Lib.hid (up2 HB3.out hb)
    have b1 : (me != me) = false := by simp
    clear hb x0 x1 x2 x3 x4
    go_wp2_with fail
    go_loopw [11] (fun i wr => i = .int .i64 (-1) ∧ Below w.heap.size w wr) (fun _ _ => 0)
    case atStart => exact ⟨rfl, HB4.out⟩
    case round =>
      obtain ⟨rfl, hb⟩ := hrel
      have HB5 := Lib.hid hb
      clear hb
      go_wp2_with fail
      go_ret
      exact ⟨rfl, HB5.out⟩
  have HB0 := Lib.hid (up2 HB2.out hb)
  have HC3 := Lib.hid hc
  have HB3 := Lib.hid (up2 HB0.out (HCK.out.bel hc))
  have hx := HX2.out.up (up2 hb (HCK.out.bel hc))
  have HLs3 := Lib.hid (HLsk.out q)
  have HO3 := Lib.hid (HOw.out _ HB3.out)
  have HO4 : Hid (Calls Tryz.prog 11 #[.agg #[.slice ia ni ic, .slice la nl lc, .slice ma nm mc, .int .i64 b, .int .i64 d]] w3 fun e w' => ∃ r P, e = .returned (.tuple #[.pointer (some ⟨r, 0, none⟩), .int .i64 0]) ∧ Dc Pc w0 w' c r P C0 C0) := Lib.hid (HO3.out.mono fun e w' z => by
    have hm := HME.out
    rw [q] at hm
    rcases z with ⟨q1, rfl, hb⟩ | ⟨q1, hb, ⟨q2, rfl⟩ | ⟨q2, r, P, rfl, hq, hg⟩⟩
    · rw [if_pos q1] at hm; exact absurd hm.symm q1
    · rw [if_neg (by simpa using q1)] at hm; exact absurd hm.symm q2
    · exact ⟨r, P, rfl, Dc.of HK.out HC3.out hq hb hg⟩)
  clear q hb hc x0 x1 x2 x3 x4
  have x0 := hx.cell 0
  have x1 := hx.cell 1
  have x2 := hx.cell 2
  have x3 := hx.cell 3
  have x4 := hx.cell 4
  simp at x0 x1 x2 x3 x4
  clear hx
  go_wp2_with fail
  refine HO4.out.mono ?_
  rintro e w4 ⟨r, P, rfl, hd⟩
  have HD4 := Lib.hid hd
  clear hd x0 x1 x2 x3 x4
  go_wp2_with fail
  have HDo := Lib.hid (fun (w0 W : World) (c : Nat) (S : Ct) (h : CfOf Pc w0 W c S) (x : Op4) (q : Am x.n) => do16_any HCK.out h x q)
  go_loopw [11] (fun i wr => ∃ k : Nat, k ≤ n + 1 ∧ i = .int .i64 ((k : Int) - 1) ∧ ∃ S, Dc Pc w0 wr c r P S S ∧ LsOk S) (fun i _ => n - (intOf i).toNat + (if intOf i < 0 then 1 else 0))
  case atStart => exact ⟨0, Nat.zero_le _, rfl, _, HD4.out, HLs3.out⟩
  case round =>
    obtain ⟨k, hk, rfl, S, hT, hls⟩ := hrel
    have HT := Lib.hid hT
    have HLs := Lib.hid hls
    have HBr := Lib.hid (up2 HB0.out hT.bel)
    clear hT hls
    obtain ⟨I, hI⟩ : ∃ I : Int, I = (k : Int) - 1 := ⟨_, rfl⟩
    rw [← hI]
    by_cases hlt : k = n + 1
    · have e1 : ¬ (I < (n : Int)) := by omega
      clear hI
      go_wp2_with fail
      go_ret
      exact ⟨rfl, HBr.out⟩
    have e0 : I < (n : Int) := by omega
    go_upto_if 53 with fail
    go_cut [12, 13] (fun _ _ wx => ∃ S', Dc Pc w0 wx c r P S' S' ∧ LsOk S')
    case first =>
      by_cases hz : k = 0
      · obtain rfl : I = -1 := by omega
        clear hI
        go_wp2_with fail
        go_meet
        exact ⟨_, HT.out, HLs.out⟩
      · obtain ⟨m', hm'⟩ : ∃ m', k = m' + 1 := ⟨k - 1, by omega⟩
        obtain rfl : I = (m' : Int) := by omega
        clear hI
        have e1 : (0 : Int) ≤ (m' : Int) := by omega
        have e2 : ¬ ((k : Int) < 1) := by omega
        have hmn : m' < n := by omega
        obtain ⟨y, hy⟩ : ∃ y, l[m']? = some y := ⟨l[m']'(by rw [← HN.out]; exact hmn), List.getElem?_eq_getElem _⟩
        obtain ⟨gb, o, rfl, c0, c1, c2, c3⟩ := o4_at (HR.out.up HBr.out) hy
        have hay := HAm.out y (List.mem_of_getElem? hy)
        obtain ⟨A, B, C, D⟩ := y
        simp only at c0 c1 c2 c3 hay
        clear hy hz hm'
        have HNq : Hid (¬ Cqs r P wr.heap.size) := Lib.hid fun z => by
          obtain ⟨T, cs, hh, _⟩ := HT.out.q.lt z
          have := hh.lt
          omega
        by_cases q1 : A = 1
        · subst q1
          have HOp : Hid (∀ W, Below wr.heap.size wr W → Calls Tryz.prog 12 #[.pointer (some ⟨r, 0, none⟩), .int .i64 C, .int .i64 D] W fun e w' => e = .returned (.int .i64 (S.opE ⟨1, B, C, D⟩)) ∧ Dc Pc w0 w' c r P S (S.opS ⟨1, B, C, D⟩) ∧ Kp (Cqs r P) W w') := Lib.hid fun W q => by
            have hd := HT.out.up HK.out q
            obtain ⟨tv, hq⟩ := hd.q
            rw [show S.opE ⟨1, B, C, D⟩ = S.onwE C D by rfl, show S.opS ⟨1, B, C, D⟩ = S.onwS C D by rfl]
            exact (qconward_any hq C D hay).mono fun e w' z => ⟨z.1, Dc.right HK.out hd z.2, z.2.2⟩
          have HLo := Lib.hid (HLs.out.op ⟨1, B, C, D⟩)
          have HDo2 := Lib.hid (fun (W : World) (z : Dc Pc w0 W c r P S (S.opS ⟨1, B, C, D⟩)) => do16_any (cfk_dc HK.out) z ⟨1, B, C, D⟩ hay)
          unfold Op4.val at HDo2
          simp only at HDo2
          obtain ⟨X, hX⟩ : ∃ X, X = S.opE ⟨1, B, C, D⟩ := ⟨_, rfl⟩
          obtain ⟨S', hS'⟩ : ∃ z, z = S.opS ⟨1, B, C, D⟩ := ⟨_, rfl⟩
          rw [← hX, ← hS'] at HOp HDo2
          rw [← hS'] at HLo
          have HBx := Lib.hid (Has.fresh wr 38 #[.int .i64 1, .int .i64 B, .int .i64 C, .int .i64 D])
          have b1 : (X != X) = false := by simp
          clear hX hS' hay
          go_wp2_with fail
          refine (HOp.out _ (boxed _ _)).mono ?_
          rintro e w5 ⟨rfl, hd, hkp⟩
          have HD5 := Lib.hid hd
          have hx := hkp.has HBx.out HNq.out
          have x0 := hx.cell 0
          have x1 := hx.cell 1
          have x2 := hx.cell 2
          have x3 := hx.cell 3
          simp at x0 x1 x2 x3
          clear hd c0 c1 c2 c3 hkp hx
          go_wp2_with fail
          refine (HDo2.out _ HD5.out).mono ?_
          rintro e w6 ⟨rfl, hd⟩
          have HD6 := Lib.hid hd
          clear hd x0 x1 x2 x3
          go_wp2_with fail
          all_goals
            go_meet
            exact ⟨_, HD6.out, HLo.out⟩
        by_cases q2 : A = 2
        · subst q2
          have HOp : Hid (∀ W, Below wr.heap.size wr W → Calls Tryz.prog 13 #[.pointer (some ⟨r, 0, none⟩), .int .i64 C, .int .i64 D] W fun e w' => e = .returned (.int .i64 (S.opE ⟨2, B, C, D⟩)) ∧ Dc Pc w0 w' c r P S (S.opS ⟨2, B, C, D⟩) ∧ Kp (Cqs r P) W w') := Lib.hid fun W q => by
            have hd := HT.out.up HK.out q
            obtain ⟨tv, hq⟩ := hd.q
            rw [show S.opE ⟨2, B, C, D⟩ = S.afrE C D by rfl, show S.opS ⟨2, B, C, D⟩ = S.afrS C D by rfl]
            exact (qcafresh_any hq C D hay).mono fun e w' z => ⟨z.1, Dc.right HK.out hd z.2, z.2.2⟩
          have HLo := Lib.hid (HLs.out.op ⟨2, B, C, D⟩)
          have HDo2 := Lib.hid (fun (W : World) (z : Dc Pc w0 W c r P S (S.opS ⟨2, B, C, D⟩)) => do16_any (cfk_dc HK.out) z ⟨2, B, C, D⟩ hay)
          unfold Op4.val at HDo2
          simp only at HDo2
          obtain ⟨X, hX⟩ : ∃ X, X = S.opE ⟨2, B, C, D⟩ := ⟨_, rfl⟩
          obtain ⟨S', hS'⟩ : ∃ z, z = S.opS ⟨2, B, C, D⟩ := ⟨_, rfl⟩
          rw [← hX, ← hS'] at HOp HDo2
          rw [← hS'] at HLo
          have HBx := Lib.hid (Has.fresh wr 38 #[.int .i64 2, .int .i64 B, .int .i64 C, .int .i64 D])
          have b1 : (X != X) = false := by simp
          clear hX hS' hay
          go_wp2_with fail
          refine (HOp.out _ (boxed _ _)).mono ?_
          rintro e w5 ⟨rfl, hd, hkp⟩
          have HD5 := Lib.hid hd
          have hx := hkp.has HBx.out HNq.out
          have x0 := hx.cell 0
          have x1 := hx.cell 1
          have x2 := hx.cell 2
          have x3 := hx.cell 3
          simp at x0 x1 x2 x3
          clear hd c0 c1 c2 c3 hkp hx
          go_wp2_with fail
          refine (HDo2.out _ HD5.out).mono ?_
          rintro e w6 ⟨rfl, hd⟩
          have HD6 := Lib.hid hd
          clear hd x0 x1 x2 x3
          go_wp2_with fail
          all_goals
            go_meet
            exact ⟨_, HD6.out, HLo.out⟩
        · have d1 : (A == 1) = false := by simpa using q1
          have d2 : (A == 2) = false := by simpa using q2
          have HOp : Hid (∀ W, Below wr.heap.size wr W → Calls Tryz.prog 14 #[.pointer (some ⟨r, 0, none⟩), .int .i64 B, .int .i64 C, .int .i64 D] W fun e w' => e = .returned (.int .i64 (S.opE ⟨A, B, C, D⟩)) ∧ Dc Pc w0 w' c r P S (S.opS ⟨A, B, C, D⟩) ∧ Kp (Cqs r P) W w') := Lib.hid fun W q => by
            have hd := HT.out.up HK.out q
            obtain ⟨tv, hq⟩ := hd.q
            rw [show S.opE ⟨A, B, C, D⟩ = S.telE B C D by unfold Ct.opE; rw [if_neg q1, if_neg q2], show S.opS ⟨A, B, C, D⟩ = S.telS B C D by unfold Ct.opS; rw [if_neg q1, if_neg q2]]
            exact (qctell_any hq B C D hay).mono fun e w' z => ⟨z.1, Dc.right HK.out hd z.2, z.2.2⟩
          have HLo := Lib.hid (HLs.out.op ⟨A, B, C, D⟩)
          have HDo2 := Lib.hid (fun (W : World) (z : Dc Pc w0 W c r P S (S.opS ⟨A, B, C, D⟩)) => do16_any (cfk_dc HK.out) z ⟨A, B, C, D⟩ hay)
          unfold Op4.val at HDo2
          simp only at HDo2
          obtain ⟨X, hX⟩ : ∃ X, X = S.opE ⟨A, B, C, D⟩ := ⟨_, rfl⟩
          obtain ⟨S', hS'⟩ : ∃ z, z = S.opS ⟨A, B, C, D⟩ := ⟨_, rfl⟩
          rw [← hX, ← hS'] at HOp HDo2
          rw [← hS'] at HLo
          have HBx := Lib.hid (Has.fresh wr 38 #[.int .i64 A, .int .i64 B, .int .i64 C, .int .i64 D])
          have b1 : (X != X) = false := by simp
          clear hX hS' hay
          go_wp2_with fail
          refine (HOp.out _ (boxed _ _)).mono ?_
          rintro e w5 ⟨rfl, hd, hkp⟩
          have HD5 := Lib.hid hd
          have hx := hkp.has HBx.out HNq.out
          have x0 := hx.cell 0
          have x1 := hx.cell 1
          have x2 := hx.cell 2
          have x3 := hx.cell 3
          simp at x0 x1 x2 x3
          clear hd c0 c1 c2 c3 hkp hx
          go_wp2_with fail
          refine (HDo2.out _ HD5.out).mono ?_
          rintro e w6 ⟨rfl, hd⟩
          have HD6 := Lib.hid hd
          clear hd x0 x1 x2 x3
          go_wp2_with fail
          all_goals
            go_meet
            exact ⟨_, HD6.out, HLo.out⟩
    case rest =>
      obtain ⟨S1, hd, hl1⟩ := hcut
      have HD := Lib.hid hd
      have HL1 := Lib.hid hl1
      have HBc := Lib.hid (up2 HB0.out hd.bel)
      obtain ⟨ra, rk, r0, r1, r3⟩ := hd.heads
      have HPri : Hid (∀ W, Below wc.heap.size wc W → Calls Tryz.prog 16 #[.pointer (some ⟨c, 0, none⟩)] W fun e w' => e = .returned (.int .i64 S1.N) ∧ Below W.heap.size W w') := Lib.hid fun W q => ((HD.out.up HK.out q).rds HK.out day).pri
      have HDy : Hid (∀ W, Below wc.heap.size wc W → Calls Tryz.prog 17 #[.pointer (some ⟨c, 0, none⟩)] W fun e w' => e = .returned (.int .i64 S1.la) ∧ Below W.heap.size W w') := Lib.hid fun W q => ((HD.out.up HK.out q).rds HK.out day).dy
      have HMan : Hid (∀ W, Below wc.heap.size wc W → Calls Tryz.prog 18 #[.pointer (some ⟨c, 0, none⟩)] W fun e w' => e = .returned (.int .i64 (S1.n : Int)) ∧ Below W.heap.size W w') := Lib.hid fun W q => ((HD.out.up HK.out q).rds HK.out day).man
      have HAl : Hid (∀ W, Below wc.heap.size wc W → Calls Tryz.prog 19 #[.pointer (some ⟨c, 0, none⟩), .int .i64 day] W fun e w' => e = .returned (.int .i64 (S1.all day)) ∧ Below W.heap.size W w') := Lib.hid fun W q => ((HD.out.up HK.out q).rds HK.out day).all
      have HQl : Hid (∀ W, Below wc.heap.size wc W → Calls Tryz.prog 20 #[.pointer (some ⟨r, 0, none⟩), .int .i64 day] W fun e w' => e = .returned (.int .i64 (S1.all day)) ∧ Below W.heap.size W w') := Lib.hid fun W q => ((HD.out.up HK.out q).rds HK.out day).qall
      have hn1 := (HD.out.fine HK.out).n1
      generalize S1.N = NN at HPri r0
      generalize S1.la = lx at HDy r1
      generalize S1.all day = AV at HAl HQl
      obtain ⟨nn, hnn⟩ : ∃ nn, nn = S1.n := ⟨_, rfl⟩
      rw [← hnn] at HMan r3 hn1
      have HNn := Lib.hid hnn
      have kS0 : Hid (wc.drew.cell? ⟨r, 0, none⟩ = some (.int .i64 NN) ∧ wc.drew.cell? ⟨r, 1, none⟩ = some (.int .i64 lx) ∧ wc.drew.cell? ⟨r, 3, none⟩ = some (.slice ra nn rk)) := Lib.hid ⟨r0, r1, r3⟩
      have kB0 : Hid (Below wc.heap.size wc wc.drew) := Lib.hid (Below.refl wc.heap.size wc).drew
      clear hd hl1 hnn
      go_wp2_with fail
      go_region_held3 (fun w' => w'.cell? ⟨r, 0, none⟩ = some (.int .i64 NN) ∧ w'.cell? ⟨r, 1, none⟩ = some (.int .i64 lx) ∧ w'.cell? ⟨r, 3, none⟩ = some (.slice ra nn rk))
        (first | (go_keep; done) | (with_reducible exact kS0.out) | (with_reducible exact kS1.out) | (with_reducible exact kS2.out) | (with_reducible exact kS3.out) | (with_reducible exact kS4.out) | (with_reducible exact kS5.out))
        (first
          | (go_at_call 16; (with_reducible refine ((HPri.out _ kB0.out).mono ?_)); rintro e v1 ⟨rfl, hv⟩; have kB1 := Lib.hid (up2 kB0.out hv); have kS1 : Hid (v1.cell? ⟨r, 0, none⟩ = some (.int .i64 NN) ∧ v1.cell? ⟨r, 1, none⟩ = some (.int .i64 lx) ∧ v1.cell? ⟨r, 3, none⟩ = some (.slice ra nn rk)) := Lib.hid ⟨kcell hv kS0.out.1, kcell hv kS0.out.2.1, kcell hv kS0.out.2.2⟩; clear hv)
          | (go_at_call 17; (with_reducible refine ((HDy.out _ kB1.out).mono ?_)); rintro e v2 ⟨rfl, hv⟩; have kB2 := Lib.hid (up2 kB1.out hv); have kS2 : Hid (v2.cell? ⟨r, 0, none⟩ = some (.int .i64 NN) ∧ v2.cell? ⟨r, 1, none⟩ = some (.int .i64 lx) ∧ v2.cell? ⟨r, 3, none⟩ = some (.slice ra nn rk)) := Lib.hid ⟨kcell hv kS1.out.1, kcell hv kS1.out.2.1, kcell hv kS1.out.2.2⟩; clear hv)
          | (go_at_call 18; (with_reducible refine ((HMan.out _ kB2.out).mono ?_)); rintro e v3 ⟨rfl, hv⟩; have kB3 := Lib.hid (up2 kB2.out hv); have kS3 : Hid (v3.cell? ⟨r, 0, none⟩ = some (.int .i64 NN) ∧ v3.cell? ⟨r, 1, none⟩ = some (.int .i64 lx) ∧ v3.cell? ⟨r, 3, none⟩ = some (.slice ra nn rk)) := Lib.hid ⟨kcell hv kS2.out.1, kcell hv kS2.out.2.1, kcell hv kS2.out.2.2⟩; clear hv)
          | (go_at_call 19; (with_reducible refine ((HAl.out _ kB3.out).mono ?_)); rintro e v4 ⟨rfl, hv⟩; have kB4 := Lib.hid (up2 kB3.out hv); have kS4 : Hid (v4.cell? ⟨r, 0, none⟩ = some (.int .i64 NN) ∧ v4.cell? ⟨r, 1, none⟩ = some (.int .i64 lx) ∧ v4.cell? ⟨r, 3, none⟩ = some (.slice ra nn rk)) := Lib.hid ⟨kcell hv kS3.out.1, kcell hv kS3.out.2.1, kcell hv kS3.out.2.2⟩; clear hv)
          | (go_at_call 20; (with_reducible refine ((HQl.out _ kB4.out).mono ?_)); rintro e v5 ⟨rfl, hv⟩; have kB5 := Lib.hid (up2 kB4.out hv); have kS5 : Hid (v5.cell? ⟨r, 0, none⟩ = some (.int .i64 NN) ∧ v5.cell? ⟨r, 1, none⟩ = some (.int .i64 lx) ∧ v5.cell? ⟨r, 3, none⟩ = some (.slice ra nn rk)) := Lib.hid ⟨kcell hv kS4.out.1, kcell hv kS4.out.2.1, kcell hv kS4.out.2.2⟩; clear hv))
      all_goals
        clear r0 r1 r3
        go_wp2_with fail
        go_loopw [14] (fun v wz => ∃ j : Nat, j ≤ nn + 2 ∧ v = .int .i64 ((j : Int) - 1) ∧ Dc Pc w0 wz c r P S1 S1) (fun v _ => nn + 2 - (intOf v + 1).toNat)
        case atStart => exact ⟨0, Nat.zero_le _, rfl, HD.out.up HK.out kB5.out⟩
        case round =>
          obtain ⟨j, hj, rfl, hd2⟩ := hrel
          have HD2 := Lib.hid hd2
          obtain ⟨ra2, rk2, _, _, r3⟩ := hd2.heads
          rw [← HNn.out] at r3
          clear hd2
          by_cases hex : j = nn + 2
          · have e1 : ¬ ((j : Int) - 1 ≤ (nn : Int)) := by omega
            have e2 : IntKind.i64.wrap (I + 1) = I + 1 := IntWalk.i64_in _ (by omega)
            go_wp2_with fail
            refine ⟨⟨k + 1, by omega, ?_, S1, HD2.out, HL1.out⟩, ?_⟩
            · rw [show (((k + 1 : Nat) : Int)) - 1 = (k : Int) by omega]
            · show (n - (k : Int).toNat + if (k : Int) < 0 then 1 else 0) < n - I.toNat + if I < 0 then 1 else 0
              have z1 : ¬ ((k : Int) < 0) := by omega
              rw [if_neg z1]
              by_cases z : I < 0
              · rw [if_pos z]; omega
              · rw [if_neg z]; omega
          have e1 : (j : Int) - 1 ≤ (nn : Int) := by omega
          have e2 : IntKind.i64.wrap ((j : Int) - 1 + 1) = (j : Int) - 1 + 1 := IntWalk.i64_in _ (by omega)
          have HJe : Hid ((j : Int) - 1 + 1 = ((j + 1 : Nat) : Int) - 1) := Lib.hid (by omega)
          obtain ⟨J, hJ⟩ : ∃ J : Int, J = (j : Int) - 1 := ⟨_, rfl⟩
          rw [← hJ] at e1 e2 HJe ⊢
          have HJ := Lib.hid hJ
          have HJl : Hid (j < nn + 2) := Lib.hid (by omega)
          have HAt : Hid (∀ W, Below wr.heap.size wr W → Calls Tryz.prog 21 #[.pointer (some ⟨c, 0, none⟩), .int .i64 J] W fun e w' => e = .returned (.int .i64 (S1.altA J)) ∧ Below W.heap.size W w') := Lib.hid fun W q => ((HD2.out.up HK.out q).rds HK.out day).alt J
          have HQt : Hid (∀ W, Below wr.heap.size wr W → Calls Tryz.prog 22 #[.pointer (some ⟨r, 0, none⟩), .int .i64 J] W fun e w' => e = .returned (.int .i64 (S1.altA J)) ∧ Below W.heap.size W w') := Lib.hid fun W q => ((HD2.out.up HK.out q).rds HK.out day).qalt J
          have HEt : Hid (∀ W, Below wr.heap.size wr W → Calls Tryz.prog 23 #[.pointer (some ⟨c, 0, none⟩), .int .i64 J, .int .i64 day] W fun e w' => e = .returned (.int .i64 (S1.earA J day)) ∧ Below W.heap.size W w') := Lib.hid fun W q => ((HD2.out.up HK.out q).rds HK.out day).ear J
          have HQe : Hid (∀ W, Below wr.heap.size wr W → Calls Tryz.prog 24 #[.pointer (some ⟨r, 0, none⟩), .int .i64 J, .int .i64 day] W fun e w' => e = .returned (.int .i64 (S1.earA J day)) ∧ Below W.heap.size W w') := Lib.hid fun W q => ((HD2.out.up HK.out q).rds HK.out day).qear J
          have HDu : Hid (∀ W, Below wr.heap.size wr W → Calls Tryz.prog 25 #[.pointer (some ⟨c, 0, none⟩), .int .i64 J] W (DutR W S1 J)) := Lib.hid fun W q => ((HD2.out.up HK.out q).rds HK.out day).dut J
          unfold DutR at HDu
          generalize S1.altA J = av at HAt HQt
          generalize S1.earA J day = ev at HEt HQe
          clear hJ hex hlt hk hj
          go_wp2_with fail
          refine (HAt.out _ (Below.refl _ _)).mono ?_
          rintro e v1 ⟨rfl, hv⟩
          have kB1 := Lib.hid hv
          clear hv r3
          go_wp2_with fail
          refine (HQt.out _ kB1.out).mono ?_
          rintro e v2 ⟨rfl, hv⟩
          have kB2 := Lib.hid (up2 kB1.out hv)
          clear hv
          go_wp2_with fail
          refine (HEt.out _ kB2.out).mono ?_
          rintro e v3 ⟨rfl, hv⟩
          have kB3 := Lib.hid (up2 kB2.out hv)
          clear hv
          go_wp2_with fail
          refine (HQe.out _ kB3.out).mono ?_
          rintro e v4 ⟨rfl, hv⟩
          have kB4 := Lib.hid (up2 kB3.out hv)
          clear hv
          go_wp2_with fail
          refine (HDu.out _ kB4.out).mono ?_
          rintro e v5 ⟨hv, ⟨hh, rfl⟩ | ⟨hh, la, lc, rfl, hin⟩⟩
          · have kB5 := Lib.hid (up2 kB4.out hv)
            have hJn : J < 0 ∨ J = (nn : Int) := by
              rw [HNn.out]
              unfold Ct.has at hh
              simp at hh
              have := HJ.out
              have := HJl.out
              rw [HNn.out] at this
              omega
            obtain ⟨ra3, rk3, _, _, r3⟩ := HD2.out.heads
            rw [← HNn.out] at r3
            clear hh hv
            go_wp2_with fail
            have r3 := kcell (up2 kB5.out (boxed v5 (.cells #[.slice none 0 0, .int .i64 0, .int .i64 0, .int .i64 0, .int .i64 0, .int .i64 0] 51))) r3
            by_cases hJ0 : J < 0
            · have t0 : decide ((0 : Int) ≤ J) = false := decide_eq_false (by omega)
              clear hJn
              go_quiet (fail)
              go_wp2_with fail
              exact ⟨⟨j + 1, by have := HJl.out; omega, by rw [← HJe.out], HD2.out.up HK.out (blw (up2 kB5.out (boxed _ _)) _)⟩, by simp only [intOf]; have := HJ.out; have := HJl.out; omega⟩
            · have t0 : decide ((0 : Int) ≤ J) = true := decide_eq_true (by omega)
              have t1 : decide (J < (nn : Int)) = false := decide_eq_false (by omega)
              clear hJn hJ0
              go_quiet (fail)
              go_wp2_with fail
              exact ⟨⟨j + 1, by have := HJl.out; omega, by rw [← HJe.out], HD2.out.up HK.out (blw (up2 kB5.out (boxed _ _)) _)⟩, by simp only [intOf]; have := HJ.out; have := HJl.out; omega⟩
          · have kB5 := Lib.hid (up2 kB4.out hv)
            obtain ⟨t, hJt, ht⟩ : ∃ t : Nat, J = (t : Int) ∧ t < S1.n := by
              unfold Ct.has at hh
              simp at hh
              exact ⟨J.toNat, by omega, by omega⟩
            subst hJt
            rw [Int.toNat_natCast] at hin ⊢
            have hls : (S1.tr t).d.ls.length ≤ 1000 := HL1.out _ (Ct.mem ht)
            obtain ⟨tb, tof, rk2, x1, x2, la2, lc2, q3, hlog⟩ := HD2.out.log ht
            rw [← HNn.out] at q3 ht
            obtain ⟨D, hDD⟩ : ∃ D, D = (S1.tr t).d := ⟨_, rfl⟩
            rw [← hDD] at hin hls hlog ⊢
            have HOne := Lib.hid (fun (W : World) (q1 : InA W la D.ls) (q2 : InA W la2 D.ls) => one_copy D la la2 lc lc2 W q1 q2 hls)
            have HIn := Lib.hid hin
            have HLog := Lib.hid hlog
            obtain ⟨l0, l1, l2, l3, l4, l5, l6, l7, _⟩ := hlog
            unfold Dt.val at HOne ⊢
            obtain ⟨m, hm⟩ : ∃ m, m = D.ls.length := ⟨_, rfl⟩
            obtain ⟨al, hal⟩ : ∃ z, z = D.al := ⟨_, rfl⟩
            obtain ⟨un, hun⟩ : ∃ z, z = D.un := ⟨_, rfl⟩
            obtain ⟨me, hme⟩ : ∃ z, z = D.me := ⟨_, rfl⟩
            obtain ⟨fi, hfi⟩ : ∃ z, z = D.fi := ⟨_, rfl⟩
            obtain ⟨lA, hlA⟩ : ∃ z, z = D.la := ⟨_, rfl⟩
            rw [← hm, ← hal, ← hun, ← hme, ← hfi, ← hlA] at HOne ⊢
            rw [← hm] at l2
            rw [← hal] at l3
            rw [← hun] at l4
            rw [← hme] at l5
            rw [← hfi] at l6
            rw [← hlA] at l7
            have HCs : Hid (wr.cell? ⟨r, 3, none⟩ = some (.slice (some ⟨tb, tof, none⟩) nn rk2) ∧ wr.cell? ⟨tb, tof + t, none⟩ = some (.pointer (some ⟨x1, 0, none⟩)) ∧ wr.cell? ⟨x1, 0, none⟩ = some (.pointer (some ⟨x2, 0, none⟩)) ∧ wr.cell? ⟨x2, 0, none⟩ = some (.slice la2 m lc2) ∧ wr.cell? ⟨x2, 1, none⟩ = some (.int .i64 al) ∧ wr.cell? ⟨x2, 2, none⟩ = some (.int .i64 un) ∧ wr.cell? ⟨x2, 3, none⟩ = some (.int .i64 me) ∧ wr.cell? ⟨x2, 4, none⟩ = some (.int .i64 fi) ∧ wr.cell? ⟨x2, 5, none⟩ = some (.int .i64 lA)) := Lib.hid ⟨q3, l0, l1, l2, l3, l4, l5, l6, l7⟩
            have i0 : (0 : Int) ≤ (t : Int) := by omega
            have i1 : (t : Int) < (nn : Int) := by omega
            have t0 : decide ((0 : Int) ≤ (t : Int)) = true := decide_eq_true i0
            have t1 : decide ((t : Int) < (nn : Int)) = true := decide_eq_true i1
            clear hh hv hin hls q3 l0 l1 l2 l3 l4 l5 l6 l7 hDD hm hal hun hme hfi hlA ht
            go_wp2_with fail
            obtain ⟨W6, hW6⟩ : ∃ W6, W6 = v5.alloc (.cells #[.slice la m lc, .int .i64 al, .int .i64 un, .int .i64 me, .int .i64 fi, .int .i64 lA] 51) := ⟨_, rfl⟩
            have hx6 : Has W6 v5.heap.size 51 #[.slice la m lc, .int .i64 al, .int .i64 un, .int .i64 me, .int .i64 fi, .int .i64 lA] := by rw [hW6]; exact Has.fresh _ _ _
            have HB56 : Hid (Below v5.heap.size v5 W6) := Lib.hid (by rw [hW6]; exact boxed _ _)
            have HB6 : Hid (Below wr.heap.size wr W6) := Lib.hid (up2 kB5.out HB56.out)
            obtain ⟨bx, hbx⟩ : ∃ bx, bx = v5.heap.size := ⟨_, rfl⟩
            rw [← hbx] at hx6
            rw [← hW6, ← hbx]
            have y0 := hx6.cell 0
            have y1 := hx6.cell 1
            have y2 := hx6.cell 2
            have y3 := hx6.cell 3
            have y4 := hx6.cell 4
            have y5 := hx6.cell 5
            simp at y0 y1 y2 y3 y4 y5
            have hc6 := HCs.out
            have kS0 : Hid (W6.drew.cell? ⟨bx, 0, none⟩ = some (.slice la m lc) ∧ W6.drew.cell? ⟨bx, 1, none⟩ = some (.int .i64 al) ∧ W6.drew.cell? ⟨bx, 2, none⟩ = some (.int .i64 un) ∧ W6.drew.cell? ⟨bx, 3, none⟩ = some (.int .i64 me) ∧ W6.drew.cell? ⟨bx, 4, none⟩ = some (.int .i64 fi) ∧ W6.drew.cell? ⟨bx, 5, none⟩ = some (.int .i64 lA) ∧ W6.drew.cell? ⟨r, 3, none⟩ = some (.slice (some ⟨tb, tof, none⟩) nn rk2) ∧ W6.drew.cell? ⟨tb, tof + t, none⟩ = some (.pointer (some ⟨x1, 0, none⟩)) ∧ W6.drew.cell? ⟨x1, 0, none⟩ = some (.pointer (some ⟨x2, 0, none⟩)) ∧ W6.drew.cell? ⟨x2, 0, none⟩ = some (.slice la2 m lc2) ∧ W6.drew.cell? ⟨x2, 1, none⟩ = some (.int .i64 al) ∧ W6.drew.cell? ⟨x2, 2, none⟩ = some (.int .i64 un) ∧ W6.drew.cell? ⟨x2, 3, none⟩ = some (.int .i64 me) ∧ W6.drew.cell? ⟨x2, 4, none⟩ = some (.int .i64 fi) ∧ W6.drew.cell? ⟨x2, 5, none⟩ = some (.int .i64 lA)) := Lib.hid ⟨y0, y1, y2, y3, y4, y5, kcell HB6.out.drew hc6.1, kcell HB6.out.drew hc6.2.1, kcell HB6.out.drew hc6.2.2.1, kcell HB6.out.drew hc6.2.2.2.1, kcell HB6.out.drew hc6.2.2.2.2.1, kcell HB6.out.drew hc6.2.2.2.2.2.1, kcell HB6.out.drew hc6.2.2.2.2.2.2.1, kcell HB6.out.drew hc6.2.2.2.2.2.2.2.1, kcell HB6.out.drew hc6.2.2.2.2.2.2.2.2⟩
            have HGo := Lib.hid (HOne.out W6.drew (HIn.out.up (HB56.out.drew)) (HLog.out.ls.up HB6.out.drew))
            have HBd := Lib.hid (HB6.out.drew)
            clear hW6 hbx hx6 y0 y1 y2 y3 y4 y5 hc6
            go_region_held3 (fun w' => w'.cell? ⟨bx, 0, none⟩ = some (.slice la m lc) ∧ w'.cell? ⟨bx, 1, none⟩ = some (.int .i64 al) ∧ w'.cell? ⟨bx, 2, none⟩ = some (.int .i64 un) ∧ w'.cell? ⟨bx, 3, none⟩ = some (.int .i64 me) ∧ w'.cell? ⟨bx, 4, none⟩ = some (.int .i64 fi) ∧ w'.cell? ⟨bx, 5, none⟩ = some (.int .i64 lA) ∧ w'.cell? ⟨r, 3, none⟩ = some (.slice (some ⟨tb, tof, none⟩) nn rk2) ∧ w'.cell? ⟨tb, tof + t, none⟩ = some (.pointer (some ⟨x1, 0, none⟩)) ∧ w'.cell? ⟨x1, 0, none⟩ = some (.pointer (some ⟨x2, 0, none⟩)) ∧ w'.cell? ⟨x2, 0, none⟩ = some (.slice la2 m lc2) ∧ w'.cell? ⟨x2, 1, none⟩ = some (.int .i64 al) ∧ w'.cell? ⟨x2, 2, none⟩ = some (.int .i64 un) ∧ w'.cell? ⟨x2, 3, none⟩ = some (.int .i64 me) ∧ w'.cell? ⟨x2, 4, none⟩ = some (.int .i64 fi) ∧ w'.cell? ⟨x2, 5, none⟩ = some (.int .i64 lA))
              (first | (go_keep; done) | (with_reducible exact kS0.out) | (with_reducible exact kS1.out))
              (first | (go_at_call 26; (with_reducible refine (HGo.out.mono ?_)); rintro e v7 ⟨rfl, hv⟩; have kB7 := Lib.hid (up2 HBd.out hv); have kS1 : Hid (v7.cell? ⟨bx, 0, none⟩ = some (.slice la m lc) ∧ v7.cell? ⟨bx, 1, none⟩ = some (.int .i64 al) ∧ v7.cell? ⟨bx, 2, none⟩ = some (.int .i64 un) ∧ v7.cell? ⟨bx, 3, none⟩ = some (.int .i64 me) ∧ v7.cell? ⟨bx, 4, none⟩ = some (.int .i64 fi) ∧ v7.cell? ⟨bx, 5, none⟩ = some (.int .i64 lA) ∧ v7.cell? ⟨r, 3, none⟩ = some (.slice (some ⟨tb, tof, none⟩) nn rk2) ∧ v7.cell? ⟨tb, tof + t, none⟩ = some (.pointer (some ⟨x1, 0, none⟩)) ∧ v7.cell? ⟨x1, 0, none⟩ = some (.pointer (some ⟨x2, 0, none⟩)) ∧ v7.cell? ⟨x2, 0, none⟩ = some (.slice la2 m lc2) ∧ v7.cell? ⟨x2, 1, none⟩ = some (.int .i64 al) ∧ v7.cell? ⟨x2, 2, none⟩ = some (.int .i64 un) ∧ v7.cell? ⟨x2, 3, none⟩ = some (.int .i64 me) ∧ v7.cell? ⟨x2, 4, none⟩ = some (.int .i64 fi) ∧ v7.cell? ⟨x2, 5, none⟩ = some (.int .i64 lA)) := Lib.hid ⟨kcell hv kS0.out.1, kcell hv kS0.out.2.1, kcell hv kS0.out.2.2.1, kcell hv kS0.out.2.2.2.1, kcell hv kS0.out.2.2.2.2.1, kcell hv kS0.out.2.2.2.2.2.1, kcell hv kS0.out.2.2.2.2.2.2.1, kcell hv kS0.out.2.2.2.2.2.2.2.1, kcell hv kS0.out.2.2.2.2.2.2.2.2.1, kcell hv kS0.out.2.2.2.2.2.2.2.2.2.1, kcell hv kS0.out.2.2.2.2.2.2.2.2.2.2.1, kcell hv kS0.out.2.2.2.2.2.2.2.2.2.2.2.1, kcell hv kS0.out.2.2.2.2.2.2.2.2.2.2.2.2.1, kcell hv kS0.out.2.2.2.2.2.2.2.2.2.2.2.2.2.1, kcell hv kS0.out.2.2.2.2.2.2.2.2.2.2.2.2.2.2⟩; clear hv))
            all_goals
              go_wp2_with fail
              exact ⟨⟨j + 1, by have := HJl.out; omega, by rw [← HJe.out], HD2.out.up HK.out (kB7.out)⟩, by simp only [intOf]; have := HJ.out; have := HJl.out; omega⟩
end Go.Proofs.YtklaonoekmhakaaGreat

namespace Go.Proofs.YtklaonoekmhakaaGreat
open Go.RowKit

def awT : Tm := ⟨[⟨0, 0, 0, 60⟩, ⟨0, 0, 1, 60⟩], [⟨0, 1, 100, 1, 10⟩, ⟨1, 1, 0, 3, 3⟩], [], 0, 1⟩
def awU : Tm := ⟨[⟨0, 0, 0, 60⟩, ⟨0, 0, 1, 60⟩], [], [], 0, 1⟩
theorem aw1 : madeE awT = 0 := by decide +kernel
theorem aw2 : madeE awU = 1 := by decide +kernel
def awC : Ct := (askT awT).C
theorem aw3 : awC.all 5 = 75 ∧ awC.onwE 5 20 = 0 := by decide +kernel
def awD : Ct := awC.onwS 5 20
theorem aw4 : awD.afrE 4 1 = 11 ∧ awD.telE 2 1 1 = 5 ∧ awD.afrE 6 (-121) = 1 := by decide +kernel
theorem aw5 : awD.N = 120 ∧ awD.la = 5 ∧ awD.n = 2 := by decide +kernel
theorem aw6 : awD.altA 0 = 70 ∧ awD.altA 1 = 50 ∧ awD.earA 0 10 = 70 ∧ awD.earA 0 5 = 25 := by decide +kernel
theorem aw7 : awD.has 1 = true ∧ (awD.tr 1).d.me = 1 := by decide +kernel
theorem aw8 : awD.afrS 4 1 = awD ∧ awD.telS 2 1 1 = awD ∧ awD.afrS 6 (-121) = awD := by
  refine ⟨?_, ?_, ?_⟩
  · unfold Ct.afrS; rw [if_neg (by rw [aw4.1]; decide)]
  · unfold Ct.telS; rw [if_pos (.inr (by rw [aw5.2.2]; decide))]
  · unfold Ct.afrS; rw [if_neg (by rw [aw4.2.2]; decide)]
theorem awT_g : TmG awT := ⟨by simp [awT, imG, Am], by simp [awT, lnG, Am], by simp [awT], by simp [awT, Am], by simp [awT, Am]⟩
theorem awU_g : TmG awU := ⟨by simp [awU, imG, Am], by simp [awU], by simp [awU], by simp [awU, Am], by simp [awU, Am]⟩
set_option maxRecDepth 100000 in
set_option maxHeartbeats 8000000 in
theorem awake16_any {Cf : World → World → Nat → Ct → Prop} (K : CfK Cf) (N : CfN Cf) : Aw16 := by
  intro w
  have HK := Lib.hid K
  have HMade := Lib.hid (fun (W : World) (p : TmP) (h : TmA W p awT) => made16_any N h awT_g (by decide) (by decide))
  have HMadU := Lib.hid (fun (W : World) (p : TmP) (h : TmA W p awU) => made16_any N h awU_g (by decide) (by decide))
  unfold MadeR at HMade HMadU
  rw [aw1] at HMade
  rw [aw2] at HMadU
  rw [show (askT awT).C = awC from rfl] at HMade
  clear K N
  go_enter Tryz.func8, Tryz.ntmps8
  go_wp2_with fail
  obtain ⟨W1, hW1⟩ : ∃ W1, W1 = w.alloc (.cells #[.int .i64 0, .int .i64 0, .int .i64 0, .int .i64 60, .int .i64 0, .int .i64 0, .int .i64 1, .int .i64 60] 72) := ⟨_, rfl⟩
  obtain ⟨W2, hW2⟩ : ∃ W2, W2 = W1.alloc (.cells #[.int .i64 0, .int .i64 1, .int .i64 100, .int .i64 1, .int .i64 10, .int .i64 1, .int .i64 1, .int .i64 0, .int .i64 3, .int .i64 3] 74) := ⟨_, rfl⟩
  have z1 : W1.heap.size = w.heap.size + 1 := by rw [hW1]; simp
  have z2 : W2.heap.size = w.heap.size + 1 + 1 := by rw [hW2]; simp; omega
  have b1 : Below w.heap.size w W1 := by rw [hW1]; exact boxed _ _
  have b2 : Below W1.heap.size W1 W2 := by rw [hW2]; exact boxed _ _
  have hI : ItA W2 (some ⟨w.heap.size, 0, none⟩) awT.I := by
    have := ita_fresh w awT.I _ rfl
    exact Rws.up (by rw [hW1]; exact this) b2
  have hL : LnA W2 (some ⟨W1.heap.size, 0, none⟩) awT.l := by rw [hW2]; exact rws_fresh (c := Ln.cells) (fun _ => rfl) W1 74 awT.l _ rfl
  obtain ⟨W3, hW3⟩ : ∃ W3, W3 = W2.alloc (.cells #[.slice (some ⟨w.heap.size, 0, none⟩) 2 2, .slice (some ⟨W1.heap.size, 0, none⟩) 2 2, .slice none 0 0, .int .i64 0, .int .i64 1] 26) := ⟨_, rfl⟩
  have b3 : Below W2.heap.size W2 W3 := by rw [hW3]; exact boxed _ _
  have hX : Has W3 W2.heap.size 26 #[.slice (some ⟨w.heap.size, 0, none⟩) 2 2, .slice (some ⟨W1.heap.size, 0, none⟩) 2 2, .slice none 0 0, .int .i64 0, .int .i64 1] := by rw [hW3]; exact Has.fresh _ _ _
  rw [← hW1, ← z1, ← hW2, z1, ← z2]
  rw [← z1, ← hW3]
  have hM := HMade.out W3 ⟨some ⟨w.heap.size, 0, none⟩, 2, some ⟨W1.heap.size, 0, none⟩, 2, none, 0⟩ ⟨hI.up b3, fun e => (by cases e), hL.up b3, .inl rfl⟩
  have HX3 := Lib.hid hX
  have HI3 : Hid (ItA W3 (some ⟨w.heap.size, 0, none⟩) awU.I) := Lib.hid (hI.up b3)
  have HB3 := Lib.hid (up2 b1 (up2 b2 b3))
  have HM3 := Lib.hid hM
  obtain ⟨p0, hp0⟩ : ∃ z : Addr, z = ⟨w.heap.size, 0, none⟩ := ⟨_, rfl⟩
  obtain ⟨p1, hp1⟩ : ∃ z : Addr, z = ⟨W1.heap.size, 0, none⟩ := ⟨_, rfl⟩
  obtain ⟨xp, hxp⟩ : ∃ z, z = W2.heap.size := ⟨_, rfl⟩
  rw [← hp0, ← hp1] at HX3 HM3
  rw [← hxp] at HX3
  rw [← hp0] at HI3
  rw [← hp0, ← hp1, ← hxp]
  unfold Tm.val awT at HM3
  simp only [List.length_cons, List.length_nil] at HM3
  clear hM hX hI hL b1 b2 b3 z1 z2 hW1 hW2 hW3 hp0 hp1 hxp HMade
  refine HM3.out.mono ?_
  rintro e w4 (⟨q, _⟩ | ⟨_, w0, c, hb, rfl, hc⟩)
  · exact absurd rfl q
  have HC4 := Lib.hid hc
  have HB4 := Lib.hid (up2 hb (HK.out.bel hc))
  have hx := HX3.out.up HB4.out
  have HX4 := Lib.hid hx
  have x0 := hx.cell 0
  simp at x0
  have HB0 := Lib.hid (up2 HB3.out hb)
  have HU4 := Lib.hid (fun (W : World) (q : Below w4.heap.size w4 W) => HMadU.out W ⟨some p0, 2, none, 0, none, 0⟩ ⟨HI3.out.up (up2 HB4.out q), fun e => (by cases e), .inl rfl, .inl rfl⟩)
  unfold Tm.val awU at HU4
  simp only [List.length_cons, List.length_nil] at HU4
  clear hb hc hx HMadU HM3
  go_wp2_with fail
  refine (HU4.out _ (Below.refl _ _)).mono ?_
  rintro e w5 (⟨_, rfl, hb⟩ | ⟨q, _⟩)
  rotate_left
  · exact absurd q (by decide)
  have HC5 := Lib.hid (HK.out.up HC4.out hb)
  clear hb x0 HU4
  go_wp2_with fail
  refine (HK.out.all 5 HC5.out).mono ?_
  rintro e w6 ⟨rfl, hb⟩
  rw [aw3.1]
  have HC6 := Lib.hid (HK.out.up HC5.out hb)
  clear hb
  go_wp2_with fail
  refine (HK.out.onward 5 20 HC6.out (am_small (by decide) (by decide))).mono ?_
  rintro e w7 ⟨rfl, hs⟩
  rw [aw3.2]
  rw [show awC.onwS 5 20 = awD from rfl] at hs
  have HC7 := Lib.hid hs
  clear hs
  go_wp2_with fail
  refine (HK.out.afresh 4 1 HC7.out (am_small (by decide) (by decide))).mono ?_
  rintro e w8 ⟨rfl, hs⟩
  rw [aw4.1]
  rw [aw8.1] at hs
  have HC8 := Lib.hid hs
  clear hs
  go_wp2_with fail
  refine (HK.out.tell 2 1 1 HC8.out (am_small (by decide) (by decide))).mono ?_
  rintro e w9 ⟨rfl, hs⟩
  rw [aw4.2.1]
  rw [aw8.2.1] at hs
  have HC9 := Lib.hid hs
  clear hs
  go_wp2_with fail
  have HD := Lib.hid (HK.out.duty 1 HC9.out)
  unfold DutR at HD
  refine HD.out.mono ?_
  rintro e w10 ⟨hb, ⟨q, _⟩ | ⟨_, da, dc, rfl, _⟩⟩
  · rw [aw7.1] at q; cases q
  have HC10 := Lib.hid (HK.out.up HC9.out hb)
  rw [show ((1 : Int)).toNat = 1 from rfl]
  unfold Dt.val
  rw [aw7.2]
  generalize (awD.tr 1).d.ls.length = dn
  generalize (awD.tr 1).d.al = al
  generalize (awD.tr 1).d.un = un
  generalize (awD.tr 1).d.fi = fi
  generalize (awD.tr 1).d.la = dl
  clear hb HD
  go_wp2_with fail
  obtain ⟨w11, hw11⟩ : ∃ W, W = w10.alloc (.cells #[.slice da dn dc, .int .i64 al, .int .i64 un, .int .i64 1, .int .i64 fi, .int .i64 dl] 51) := ⟨_, rfl⟩
  have HC11 : Hid (Cf w0 w11 c awD) := Lib.hid (HK.out.up HC10.out (by rw [hw11]; exact boxed _ _))
  have HX11 : Hid (Has w11 w10.heap.size 51 #[.slice da dn dc, .int .i64 al, .int .i64 un, .int .i64 1, .int .i64 fi, .int .i64 dl]) := Lib.hid (by rw [hw11]; exact Has.fresh _ _ _)
  obtain ⟨dp, hdp⟩ : ∃ z, z = w10.heap.size := ⟨_, rfl⟩
  rw [← hdp] at HX11 ⊢
  rw [← hw11]
  clear hw11 hdp
  refine (HK.out.allot 0 HC11.out).mono ?_
  rintro e w12 ⟨rfl, hb⟩
  rw [aw6.1]
  have HC12 := Lib.hid (HK.out.up HC11.out hb)
  have HX12 := Lib.hid (HX11.out.up hb)
  clear hb
  go_wp2_with fail
  refine (HK.out.allot 1 HC12.out).mono ?_
  rintro e w13 ⟨rfl, hb⟩
  rw [aw6.2.1]
  have HC13 := Lib.hid (HK.out.up HC12.out hb)
  have HX13 := Lib.hid (HX12.out.up hb)
  clear hb
  go_wp2_with fail
  refine (HK.out.price HC13.out).mono ?_
  rintro e w14 ⟨rfl, hb⟩
  rw [aw5.1]
  have HC14 := Lib.hid (HK.out.up HC13.out hb)
  have HX14 := Lib.hid (HX13.out.up hb)
  clear hb
  go_wp2_with fail
  refine (HK.out.day HC14.out).mono ?_
  rintro e w15 ⟨rfl, hb⟩
  rw [aw5.2.1]
  have HC15 := Lib.hid (HK.out.up HC14.out hb)
  have HX15 := Lib.hid (HX14.out.up hb)
  clear hb
  go_wp2_with fail
  refine (HK.out.many HC15.out).mono ?_
  rintro e w16 ⟨rfl, hb⟩
  rw [aw5.2.2]
  have HC16 := Lib.hid (HK.out.up HC15.out hb)
  have HX16 := Lib.hid (HX15.out.up hb)
  clear hb
  go_wp2_with fail
  refine (HK.out.earned 0 10 HC16.out).mono ?_
  rintro e w17 ⟨rfl, hb⟩
  rw [aw6.2.2.1]
  have HC17 := Lib.hid (HK.out.up HC16.out hb)
  have HX17 := Lib.hid (HX16.out.up hb)
  clear hb
  go_wp2_with fail
  refine (HK.out.earned 0 5 HC17.out).mono ?_
  rintro e w18 ⟨rfl, hb⟩
  rw [aw6.2.2.2]
  have HC18 := Lib.hid (HK.out.up HC17.out hb)
  have HX18 := Lib.hid (HX17.out.up hb)
  have hx := HX18.out
  have x3 := hx.cell 3
  simp at x3
  clear hb hx
  go_wp2_with fail
  refine (HK.out.afresh 6 (-121) HC18.out (am_small (by decide) (by decide))).mono ?_
  rintro e w19 ⟨rfl, hs⟩
  rw [aw4.2.2]
  have HC19 := Lib.hid hs
  clear hs
  go_wp2_with fail
  go_ret
  exact ⟨rfl, up2 HB0.out (HK.out.bel HC19.out)⟩
end Go.Proofs.YtklaonoekmhakaaGreat

namespace Go.Proofs.YtklaonoekmhakaaGreat
open Go.RowKit

theorem does16_core (t : Tm) (p : TmP) (a : Option Addr) (cap : Nat) (l : List Op4) (day : Int) (w : World) (h : TmA w p t) (g : TmG t) (hR : O4A w a l) (hAm : AmP l) :
    Calls Tryz.prog 3 #[t.val p, .slice a l.length cap, .int .i64 day] w fun e w' => e = .returned (.bool true) ∧ Below w.heap.size w w' :=
  does16_law pck cxnew_any (awake16_any (cfk_of pck) cxnew_any) t p a cap l day w h g hR hAm
end Go.Proofs.YtklaonoekmhakaaGreat
