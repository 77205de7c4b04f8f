/- after: what movements are with postings more. -/
import Derived.Test.YtginbgclifdfiaaAcN
namespace Go.Proofs.Ytginbgclifdfiaa
open Go.RowKit

theorem tell_no {x : Int} (h : amB x = false) : tellV x = 0 ∧ tellE x = 3 := by
  have : ¬ (-9223372036854775808 ≤ x ∧ x ≤ 9223372036854775807) := fun q => by
    rw [amB_iff.2 q] at h; cases h
  unfold tellV tellE
  exact ⟨if_neg this, if_neg this⟩
def okP (S : Ld) (k : Nat) (ps : List Po) (a c : Int) : Bool := amB (rng a c k k S.L + sumP a c ps) && resB S a c k (sumP a c ps)
theorem over_is (S : Ld) (k : Nat) (ps : List Po) : overB S k ps = ps.any fun x => !okP S k ps x.a x.c := by
  unfold overB okP resB
  congr 1
  funext x
  rw [Bool.not_and, List.not_all_eq_any_not]
  congr 1
  congr 1
  funext q
  simp
theorem Put.mem {l l' : List (Value × Value)} {key val : Value} (h : Put l key val l') : (key, val) ∈ l' ∧ (∀ y ∈ l', y ∈ l ∨ y = (key, val)) ∧ ∀ y ∈ l, y.1 ≠ key → y ∈ l' := by
  rcases h with ⟨_, rfl⟩ | ⟨l1, v0, l2, rfl, rfl⟩
  · exact ⟨by simp, fun y hy => by simpa using hy, fun y hy _ => by simp [hy]⟩
  · refine ⟨by simp, fun y hy => ?_, fun y hy hn => ?_⟩
    · rcases List.mem_append.1 hy with hy | hy
      · exact .inl (by simp [hy])
      · rcases List.mem_cons.1 hy with hy | hy
        · exact .inr hy
        · exact .inl (by simp [hy])
    · rcases List.mem_append.1 hy with hy | hy
      · simp [hy]
      · rcases List.mem_cons.1 hy with rfl | hy
        · exact absurd rfl hn
        · simp [hy]
/-- what a movement is with postings more -/
abbrev mvA (S : Ld) (k : Nat) (ps : List Po) (a c : Int) : Int := rng a c k k S.L + sumP a c ps
/-- a map of movements as they are with postings more -/
structure Aft (S : Ld) (k : Nat) (ps : List Po) (l : List (Value × Value)) : Prop where
  of : ∀ y ∈ l, ∃ x ∈ ps, y = (plV x.a x.c, .int .i64 (mvA S k ps x.a x.c))
  all : ∀ x ∈ ps, (plV x.a x.c, .int .i64 (mvA S k ps x.a x.c)) ∈ l

section
variable {w w' : World} {p m : Nat} {S : Ld} {O : Nat → Prop}
/-- on the way -/
structure Way (w wg wr : World) (S : Ld) (k : Nat) (ps : List Po) (G : List ((Int × Int) × Value × List Int)) (todo l : List (Value × Value)) : Prop where
  it : It Try.prog 73 wr (w.heap.size + 1) wg.heap.size (G.map fun x => (ekP x.1, x.2.1)) todo
  mp : Mp Try.prog 73 wr w.heap.size l
  bel : Below w.heap.size w wr
  gro : wg.grownBy wr (some w.heap.size)
  of : ∀ y ∈ l, ∃ x ∈ ps, y = (plV x.a x.c, .int .i64 (mvA S k ps x.a x.c))
  all : ∀ x ∈ G, (ekP x.1, x.2.1) ∈ todo ∨ ((ekP x.1, .int .i64 (mvA S k ps x.1.1 x.1.2)) ∈ l ∧ okP S k ps x.1.1 x.1.2 = true)
def AftR (w : World) (S : Ld) (k : Nat) (ps : List Po) (e : Ending) (w' : World) : Prop :=
  ((overB S k ps = true ∧ e = .returned (.tuple #[.map none, .int .i64 3])) ∨ (overB S k ps = false ∧ e = .returned (.tuple #[.map (some w.heap.size), .int .i64 0]) ∧ ∃ l, Mp Try.prog 73 w' w.heap.size l ∧ Aft S k ps l)) ∧ Below w.heap.size w w'

set_option maxRecDepth 100000 in
set_option maxHeartbeats 8000000 in
theorem after_any (k : Nat) (a : Option Addr) (n cap : Nat) (ps : List Po) (h : Lg w p S O) (hk : k < S.n) (hp : PsA w a ps) (hn : ps.length = n) (h1 : 1 ≤ n) (h2 : n ≤ 1000) (hm : ∀ x ∈ ps, Am x.a ∧ Am x.c ∧ Am x.m) :
    Calls Try.prog 43 #[.pointer (some ⟨p, 0, none⟩), .int .i64 (k : Int), .slice a n cap] w (AftR w S k ps) := by
  have HL := Lib.hid h
  have hb1 := boxed w (.map #[] 0)
  have HBy := Lib.hid (by_any (w.alloc (.map #[] 0)) a n cap ps (hp.up hb1) hn h1 h2 fun x hx => ⟨(hm x hx).1, (hm x hx).2.1⟩)
  have HM := Lib.hid hm
  have HN := Lib.hid hn
  have hmm := @run_makeMap Try.prog
  clear h hp hn hm h1
  go_enter Try.func43, Try.ntmps43
  go_wp2_with fail
  refine HBy.out.mono ?_
  rintro e wg ⟨rfl, G, hG⟩
  have HG := Lib.hid hG
  obtain ⟨wi, hrange, hit, hbi, hsz⟩ := Mp.range Try.underlying60 hG.gr.map
  have hsz1 : (w.alloc (.map #[] 0)).heap.size = w.heap.size + 1 := by simp
  rw [hsz1] at hrange hit ⊢
  have hmg : Mp Try.prog 73 wi w.heap.size [] := ((Mp.fresh w).up (hG.bel)).up hbi
  have hlt := hG.lt
  rw [hsz1] at hlt
  have hW : Way w wg wi S k ps G (G.map fun x => (ekP x.1, x.2.1)) [] :=
    ⟨hit, hmg, (hb1.trans (hG.bel.mono (by simp))).trans (hbi.mono (by omega)), grown_up hbi _, by simp, fun x hx => .inl (List.mem_map.2 ⟨x, hx, rfl⟩)⟩
  have HW := Lib.hid hW
  clear hG hit hbi hsz hmg hW hb1 hsz1
  go_wp2_with fail
  go_loopw [9, 10, 11, 12] (fun _ _ _ _ wr => ∃ todo l, Way w wg wr S k ps G todo l) (fun _ _ _ _ wr => wr.rangeLeft (w.heap.size + 1) wg.heap.size)
  case atStart => exact ⟨_, _, HW.out⟩
  case round =>
    obtain ⟨todo, l, hW⟩ := hrel
    have HWr := Lib.hid hW
    clear hrange
    rcases hW.it.next 0 with ⟨hT, hnext⟩ | ⟨t1, key, v, t2, w1, hT, hnext, hit, hg, hs, hent⟩
    · have hov : overB S k ps = false := by
        rw [over_is]
        refine List.any_eq_false.2 fun x hx => ?_
        obtain ⟨y, hy, e⟩ := HG.out.ok.all x hx
        rcases hW.all y hy with h | h
        · rw [hT] at h; simp at h
        · have := h.2
          rw [e] at this
          simpa [plK] using this
      have haft : Aft S k ps l := ⟨hW.of, fun x hx => by
        obtain ⟨y, hy, e⟩ := HG.out.ok.all x hx
        rcases hW.all y hy with h | h
        · rw [hT] at h; simp at h
        · have := h.1
          rw [e] at this
          exact this⟩
      have HA := Lib.hid haft
      have HO := Lib.hid hov
      clear hW hT hov haft
      go_wp2_with fail
      go_ret2
      exact ⟨.inr ⟨HO.out, rfl, l, HWr.out.mp, HA.out⟩, HWr.out.bel⟩
    · have hmem : (key, v) ∈ G.map fun x => (ekP x.1, x.2.1) := hW.it.sub _ (by rw [hT]; simp)
      obtain ⟨x, hx, hkv⟩ := List.mem_map.1 hmem
      obtain ⟨q, v0, zs⟩ := x
      injection hkv with hk1 hk2
      have hk1' : ekP q = key := hk1
      have hk2' : v0 = v := hk2
      subst hk1'; subst hk2'
      obtain ⟨y, hy, hyq⟩ := HG.out.ok.of _ hx
      have hyq' : plK y = q := hyq
      have hya : y.a = q.1 := by rw [← hyq']; rfl
      have hyc : y.c = q.2 := by rw [← hyq']; rfl
      have hamq := HM.out y hy
      rw [hya, hyc] at hamq
      have hs1 : (w.alloc (.map #[] 0)).heap.size = w.heap.size + 1 := by simp
      have hown0 := HG.out.gr.own _ hx
      have hlto : ∀ g, v0.ownBlock = some g → w.heap.size + 1 < g ∧ g < wg.heap.size := fun g hg => by have := hown0.lt hg; rw [hs1] at this; omega
      have hown1 : Am1 w1 ((w.alloc (.map #[] 0)).heap.size + 1) v0 zs := (hown0.keep hW.gro (by
        cases e : v0.ownBlock with
        | none => exact .inl rfl
        | some g => refine .inr fun q => ?_; have := hlto g e; injection q with q; omega)).keep hg (by
        cases e : v0.ownBlock with
        | none => exact .inl rfl
        | some g => refine .inr fun q => ?_; have := hlto g e; injection q with q; omega)
      have hamt : zs = amts plK q ps := HG.out.ok.amt _ hx
      have hsum : sumL zs = sumP q.1 q.2 ps := by rw [hamt]; exact sum_place q.1 q.2 ps
      have hzs : ∀ z ∈ zs, Am z := fun z hz => by
        rw [hamt] at hz
        obtain ⟨y, hy, rfl⟩ := List.mem_map.1 hz
        exact (HM.out y (List.mem_filter.1 hy).1).2.2
      have hzl : zs.length ≤ 100000 := by
        rw [hamt]
        unfold amts
        rw [List.length_map]
        have := List.length_filter_le (fun x => decide (plK x = q)) ps
        rw [HN.out] at this; omega
      have hbw1 : Below w.heap.size w w1 := hW.bel.grown hg hW.bel.size (fun j hj => by injection hj with hj; omega)
      obtain ⟨W1, hW1⟩ : ∃ W1, W1 = w1.alloc (.cells #[.int .i64 q.1, .int .i64 q.2] 73) := ⟨_, rfl⟩
      have hb1 : Below w1.heap.size w1 W1 := by rw [hW1]; exact boxed _ _
      have hX : Has W1 w1.heap.size 73 #[.int .i64 q.1, .int .i64 q.2] := by rw [hW1]; exact Has.fresh _ _ _
      have hbW : Below w.heap.size w W1 := up2 hbw1 hb1
      have x0 : W1.cell? ⟨w1.heap.size, 0, none⟩ = some (.int .i64 q.1) := hX.cell 0
      have x1 : W1.cell? ⟨w1.heap.size, 1, none⟩ = some (.int .i64 q.2) := hX.cell 1
      have hmov := moved_any q.1 q.2 (k : Int) (HL.out.up hbW) hamq.1 hamq.2.1
      rw [show movV S q.1 q.2 (k : Int) = rng q.1 q.2 k k S.L by unfold movV; rw [if_neg (by omega)]] at hmov
      have hF := HL.out.fine
      have hwith := with_any W1 (rng q.1 q.2 k k S.L) (hown1.up hb1) (hF.mov q.1 q.2 k (by omega) (by omega)) hzs hzl
      rw [hsum] at hwith
      have HMov := Lib.hid hmov
      have HWith := Lib.hid hwith
      have HBal : Hid (∀ w3, Below W1.heap.size W1 w3 → Calls Try.prog 55 #[.pointer (some ⟨p, 0, none⟩), plV q.1 q.2, .int .i64 (k : Int), v0] w3 fun e w' => e = .returned (.bool (resB S q.1 q.2 k (sumP q.1 q.2 ps))) ∧ Below w3.heap.size w3 w') := fun w3 hb3 => by
        have := balances_any q.1 q.2 k (HL.out.up (up2 hbW hb3)) hamq.1 hamq.2.1 hk ((hown1.up hb1).up hb3) hzs hzl
        rw [hsum] at this
        exact this
      have HBW := Lib.hid hbW
      have HX := Lib.hid hX
      have HB1 := Lib.hid hb1
      have HW1 := Lib.hid hW1
      have HIt := Lib.hid hit
      have HGr := Lib.hid hg
      have hWay := HWr.out
      have HT := Lib.hid hT
      have HXx := Lib.hid hx
      have HY := Lib.hid (And.intro hy (And.intro hya hyc))
      have HLt : t1.length + t2.length < todo.length := by rw [hT]; simp
      have HLtt := Lib.hid HLt
      have HKy := Lib.hid (ky_place hamq.1 hamq.2.1)
      have HOv : Hid (okP S k ps q.1 q.2 = false → overB S k ps = true) := fun h => by
        rw [over_is]
        exact List.any_eq_true.2 ⟨y, hy, by rw [hya, hyc, h]; rfl⟩
      clear hW hit hg hs hb1 hX hbW hmov hwith hW1 hown0 hown1 hlto hzs hzl hsum hamt hamq hy hya hyc hyq hyq' hx hmem hk1 hk2 hT hbw1 hF HLt hs1 hWay
      unfold ekP plV at hnext hent
      unfold plV at HBal
      cases qa : amB (rng q.1 q.2 k k S.L + sumP q.1 q.2 ps)
      · have hov := HOv.out (by unfold okP; rw [qa]; rfl)
        have HO := Lib.hid hov
        have te := (tell_no qa).2
        rw [te] at HWith
        clear te hov qa
        go_wp2_with fail
        rw [← HW1.out]
        refine HMov.out.mono ?_
        rintro e w2 ⟨rfl, rfl⟩
        go_wp2_with fail
        refine HWith.out.mono ?_
        rintro e w3 ⟨rfl, hb3⟩
        have HB3 := Lib.hid hb3
        clear hb3 hnext hent x0 x1
        go_wp2_with fail
        go_ret2
        exact ⟨.inl ⟨HO.out, rfl⟩, up2 HBW.out HB3.out⟩
      · have te := tell_am (amB_iff.1 qa)
        rw [te.1, te.2] at HWith
        have HQa := Lib.hid qa
        clear te qa
        cases qb : resB S q.1 q.2 k (sumP q.1 q.2 ps)
        · have hov := HOv.out (by unfold okP; rw [qb, Bool.and_false])
          have HO := Lib.hid hov
          rw [qb] at HBal
          clear hov qb
          go_wp2_with fail
          rw [← HW1.out]
          refine HMov.out.mono ?_
          rintro e w2 ⟨rfl, rfl⟩
          go_wp2_with fail
          refine HWith.out.mono ?_
          rintro e w3 ⟨rfl, hb3⟩
          have HB3 := Lib.hid hb3
          have y0 := kcell hb3 x0
          have y1 := kcell hb3 x1
          clear hb3 hnext hent x0 x1
          go_wp2_with fail
          refine (HBal.out w3 HB3.out).mono ?_
          rintro e w4 ⟨rfl, hb4⟩
          have HB4 := Lib.hid hb4
          clear hb4 y0 y1
          go_wp2_with fail
          go_ret2
          exact ⟨.inl ⟨HO.out, rfl⟩, up2 (up2 HBW.out HB3.out) HB4.out⟩
        · have hok : okP S k ps q.1 q.2 = true := by unfold okP; rw [HQa.out, qb]; rfl
          have HOk := Lib.hid hok
          rw [qb] at HBal
          clear hok qb
          go_wp2_with fail
          rw [← HW1.out]
          refine HMov.out.mono ?_
          rintro e w2 ⟨rfl, rfl⟩
          go_wp2_with fail
          refine HWith.out.mono ?_
          rintro e w3 ⟨rfl, hb3⟩
          have HB3 := Lib.hid hb3
          have y0 := kcell hb3 x0
          have y1 := kcell hb3 x1
          clear hb3 hnext hent x0 x1
          go_wp2_with fail
          refine (HBal.out w3 HB3.out).mono ?_
          rintro e w4 ⟨rfl, hb4⟩
          have HB4 := Lib.hid hb4
          have z0 := kcell hb4 y0
          have z1 := kcell hb4 y1
          have hb14 : Below w1.heap.size w1 w4 := up2 (up2 HB1.out HB3.out) hb4
          have hmp1 : Mp Try.prog 73 w1 w.heap.size l := HWr.out.mp.keep (HGr.out.block _ HWr.out.mp.lt (by
            have := HG.out.lt
            have hs1 : (w.alloc (.map #[] 0)).heap.size = w.heap.size + 1 := by simp
            intro e; injection e with e; omega))
          obtain ⟨w5, l', hput, hmp5, hP, hg5, hs5⟩ := (hmp1.up hb14).put (val := .int .i64 (mvA S k ps q.1 q.2)) lawPlace Try.underlying86 HKy.out
          have hit5 : It Try.prog 73 w5 (w.heap.size + 1) wg.heap.size (G.map fun x => (ekP x.1, x.2.1)) (t1 ++ t2) := by
            have h4 := HIt.out.up hb14
            have := HG.out.lt
            have hs1 : (w.alloc (.map #[] 0)).heap.size = w.heap.size + 1 := by simp
            exact h4.keep (hg5.block _ h4.mp.lt (fun e => by injection e with e; omega)) (hg5.block _ h4.ltr (fun e => by injection e with e; omega))
          have hway5 : Way w wg w5 S k ps G (t1 ++ t2) l' := by
            obtain ⟨m1, m2, m3⟩ := hP.mem
            refine ⟨hit5, hmp5, ?_, ?_, fun y hy => ?_, fun x hx => ?_⟩
            · exact (up2 (up2 HBW.out HB3.out) HB4.out).grown hg5 (up2 (up2 HBW.out HB3.out) HB4.out).size (fun j hj => by injection hj with hj; omega)
            · have g1 : wg.grownBy w1 (some w.heap.size) := HWr.out.gro.andThen HGr.out (fun j hj => by injection hj with hj; exact .inl (by omega))
              have g2 : wg.grownBy w4 (some w.heap.size) := g1.andThen (grown_up hb14 none) (fun j hj => by cases hj)
              exact g2.andThen hg5 (fun j hj => .inr hj)
            · rcases m2 y hy with h | h
              · exact HWr.out.of y h
              · refine ⟨_, HY.out.1, ?_⟩
                rw [HY.out.2.1, HY.out.2.2]; exact h
            · rcases HWr.out.all x hx with h | ⟨h, h'⟩
              · rw [HT.out] at h
                rcases List.mem_append.1 h with h | h
                · exact .inl (by simp [h])
                · rcases List.mem_cons.1 h with h | h
                  · have e1 : ekP x.1 = ekP q := by injection h
                    have e2 := ekP_inj _ _ e1
                    exact .inr ⟨by rw [e2]; exact m1, by rw [e2]; exact HOk.out⟩
                  · exact .inl (by simp [h])
              · refine .inr ⟨?_, h'⟩
                by_cases e : ekP x.1 = plV q.1 q.2
                · have e2 := ekP_inj x.1 q e
                  rw [e2]; exact m1
                · exact m3 _ h e
          have HWay5 := Lib.hid hway5
          have HPut := Lib.hid hput
          unfold plV at hput
          clear hb4 y0 y1 hb14 hmp1 hmp5 hP hg5 hs5 hit5 hway5
          go_wp2_with fail
          go_roundw
          case rel => exact ⟨_, _, HWay5.out⟩
          case measure =>
            rw [HWay5.out.it.left, HWr.out.it.left, List.length_append]
            exact HLtt.out
end
end Go.Proofs.Ytginbgclifdfiaa
