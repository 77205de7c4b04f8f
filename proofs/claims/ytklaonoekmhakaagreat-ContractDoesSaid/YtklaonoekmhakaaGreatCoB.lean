/- The program's contract: alones, tracks. -/
import Derived.ArgAppend
import Derived.Laws.MakeOwn
import Derived.Laws.OwnMore
import Derived.Maps.AppendAt
import Derived.Test.YtklaonoekmhakaaGreatCgE
import Derived.Test.YtklaonoekmhakaaGreatCtMem
import Derived.Test.YtklaonoekmhakaaGreatI
import Derived.Test.YtklaonoekmhakaaGreatBoD
namespace Go.Proofs.YtklaonoekmhakaaGreat
open Go.RowKit

theorem infoPT : (Tryz.prog.info? 96).map (fun i => (i.zero, i.size, i.bytes)) = some (some (.pointer none), 1, 8) := by kernel_rfl
theorem ns_ins {w : World} {a : Option Addr} {l : List Nat} (h : NsA w a l) : InA w a (l.map fun (k : Nat) => (k : Int)) := by
  rcases h with h | ⟨b, o, e, h⟩
  · left; rw [h]; rfl
  · right
    refine ⟨b, o, e, fun i x hx j v hv => ?_⟩
    rw [List.getElem?_map] at hx
    cases q : l[i]? with
    | none => rw [q] at hx; cases hx
    | some k =>
      rw [q] at hx
      obtain rfl : (k : Int) = x := Option.some.inj hx
      exact h i k q j v hv
theorem find_ls {S : Bs} {l : List Ln} {d : Int} {x : Du} (hx : x ∈ findV S l d) : x.ls ≠ [] := by
  unfold findV at hx
  split at hx
  · unfold duties at hx
    obtain ⟨i, hi, rfl⟩ := List.mem_map.1 hx
    exact List.ne_nil_of_mem (mem_mems.2 ⟨(mem_fsts.1 hi).1, rfl⟩ : i ∈ mems (dKey S l) l.length i)
  · cases hx
theorem ns_some {w : World} {a : Option Addr} {l : List Nat} (h : NsA w a l) (hl : l ≠ []) : a ≠ none := by
  rcases h with h | ⟨b, o, e, h⟩
  · exact absurd h hl
  · rw [e]; simp
set_option maxRecDepth 100000 in
set_option maxHeartbeats 4000000 in
theorem cxalones_any {w : World} {a : Option Addr} {X : List DuX} (m cap : Nat) (f : Nat → Int) (hm : X.length = m) (hn : m ≤ 64) (h : DusA w a X) (hf : ∀ t y, X[t]? = some y → y.d.al = f t) : Calls Tryz.prog 69 #[.slice a m cap] w (NewI w m f) := by
  unfold NewI
  have HL := Lib.hid h
  have HN := Lib.hid hm
  have HF := Lib.hid hf
  obtain ⟨n, hnn⟩ : ∃ n, n = m := ⟨_, rfl⟩
  rw [← hnn] at HN hn ⊢
  clear h hf hm hnn
  obtain ⟨i0, hi, hz0, hz1, hz2⟩ := info_parts infoI64d
  go_enter Tryz.func69, Tryz.ntmps69
  go_wp2_with (at_make; refine wpList_make_full _ rfl _ _ 64 rfl w.heap.size 2 i0 (.int .i64 0) 1 Tryz.underlying64 hi hz0 hz1 .i64 .i64 _ _ n rfl rfl ?c1 ?c2 ?c3 ?c4 ?c5 ?_)
  case c1 => rfl
  case c2 => rfl
  case c3 => rw [hz2]; omega
  case c4 => unfold maxLen; omega
  case c5 => exact Nat.le_refl _
  intro w1 hown hgrow
  have hb1 : Below w.heap.size w w1 := (Below.refl _ _).grown hgrow (Nat.le_refl _) (fun k hk => by simp at hk)
  have HI := Lib.hid (made_intsR hown)
  have HB := Lib.hid hb1
  obtain ⟨g, hg⟩ : ∃ g, g = w.heap.size := ⟨_, rfl⟩
  have HG : Hid (w.heap.size ≤ g) := by rw [hg]; exact Nat.le_refl _
  rw [← hg] at HI
  rw [← hg]
  clear hown hgrow hb1 hg hi hz0 hz1 hz2 i0
  go_wp2_with fail
  go_loopw [11] (fun i wr => ∃ k : Nat, k ≤ n ∧ i = .int .i64 (k : Int) ∧ IntsR wr g n (fun t => if t < k then f t else 0) ∧ Below w.heap.size w wr) (fun i _ => n - (intOf i).toNat)
  case atStart => exact ⟨0, Nat.zero_le _, rfl, by simpa using HI.out, HB.out⟩
  case round =>
    obtain ⟨k, hk, rfl, hI, hb⟩ := hrel
    have HIr := Lib.hid hI
    have HBr := Lib.hid hb
    clear hI hb
    by_cases hlt : k < n
    · obtain ⟨y, hy⟩ : ∃ y, X[k]? = some y := ⟨X[k]'(by rw [HN.out]; exact hlt), List.getElem?_eq_getElem _⟩
      obtain ⟨b, o, ha, c0, c1, c2, c3, c4, c5, _⟩ := dus_at (HL.out.up HBr.out) hy
      subst ha
      have HX : Hid (y.d.al = f k) := Lib.hid (HF.out k y hy)
      generalize y.d.ls.length = ym at c0
      generalize y.cap = yc at c0
      generalize y.a = ya at c0
      obtain ⟨al, hal⟩ : ∃ al, al = y.d.al := ⟨_, rfl⟩
      rw [← hal] at c1 HX
      generalize y.d.un = un at c2
      generalize y.d.me = me at c3
      generalize y.d.fi = fi at c4
      generalize y.d.la = la at c5
      have hi2 := HIr.out.up (boxed wr (.cells #[.slice ya ym yc, .int .i64 al, .int .i64 un, .int .i64 me, .int .i64 fi, .int .i64 la] 51))
      have g0 := (hi2 k hlt).1
      have g1 := (hi2 k hlt).2
      have hgl := World.block_lt_of_cell? _ _ (HIr.out k hlt).1
      have hk0 : (0 : Int) ≤ (k : Int) := by omega
      have hk1 : (k : Int) < (n : Int) := by omega
      have e1 : IntKind.i64.wrap ((k : Int) + 1) = (k : Int) + 1 := IntWalk.i64_in _ (by omega)
      have hne : g ≠ wr.heap.size := by have : g < wr.heap.size := hgl; omega
      clear hy hi2 hal
      go_wp2_with fail
      go_roundw
      case rel =>
        refine ⟨k + 1, by omega, by go_num, (HIr.out.put al (upto_put HX.out)).up (boxed _ _), ?_⟩
        have hs := HBr.out.setCell (p := ⟨g, k, none⟩) HG.out (.int .i64 al)
        exact hs.alloc hs.size _
      case measure => simp [intOf]; omega
    · obtain rfl : k = n := by omega
      go_wp2_with fail
      go_ret
      exact ⟨g, rfl, HBr.out, HG.out, upto_all HIr.out⟩
/-- tracks on the way to be made: so many -/
structure Gnw (w5 w : World) (tb n : Nat) (D : Nat → Dt) (v : Nat → Int) (j : Nat) (P : Nat → Nat) (Q : Nat → Nat → Prop) : Prop where
  ptr : ∃ cs, Has w tb 96 cs ∧ cs.size = n ∧ ∀ t, t < j → cs[t]? = some (.pointer (some ⟨P t, 0, none⟩))
  trk : ∀ t, t < j → Tk w (Q t) (P t) (D t) [] [⟨0, 0, 0, v t⟩]
  apart : ∀ t u, t < j → u < j → t ≠ u → ∀ g, Q t g → ¬ Q u g
  new : ∀ t, t < j → ∀ g, Q t g → w5.heap.size ≤ g ∧ g ≠ tb
  tb0 : w5.heap.size ≤ tb
  bel : Below w5.heap.size w5 w
section
variable {w5 w w' w7 : World} {tb n j : Nat} {D : Nat → Dt} {v : Nat → Int} {P : Nat → Nat} {Q : Nat → Nat → Prop}
theorem Gnw.up (h : Gnw w5 w tb n D v j P Q) (q : Below w.heap.size w w') : Gnw w5 w' tb n D v j P Q := by
  obtain ⟨cs, h1, h2, h3⟩ := h.ptr
  exact ⟨⟨cs, h1.up q, h2, h3⟩, fun t ht => (h.trk t ht).up q, h.apart, h.new, h.tb0, up2 h.bel q⟩
theorem Gnw.start {w1 : World} (h : w1.ownsRow w5.heap.size 96 1 (.slice (some ⟨tb, 0, none⟩) n n) n (madeCells #[Value.pointer none] n).toList) (hb : Below w5.heap.size w5 w1) (ht : w5.heap.size ≤ tb) : Gnw w5 w1 tb n D v 0 (fun _ => 0) (fun _ _ => False) := by
  obtain ⟨_, q | ⟨g, cap, cur, e, _, h4, _, _, h5, _⟩⟩ := h
  · cases q.1
  · injection e with e e2 e3
    injection e with e
    injection e with e _
    subst e; subst e3
    exact ⟨⟨cur, h4, by omega, fun t ht => by omega⟩, fun t ht => by omega, fun t u ht => by omega, fun t ht => by omega, ht, hb⟩
/-- where the next pointer goes -/
theorem Gnw.cell (h : Gnw w5 w tb n D v j P Q) (hj : j < n) : (∃ u, w.cell? ⟨tb, j, none⟩ = some u) ∧ w.frozen? ⟨tb, j, none⟩ = false := by
  obtain ⟨cs, h1, h2, _⟩ := h.ptr
  exact ⟨⟨cs[j]'(by omega), by rw [h1.cell]; exact Array.getElem?_eq_getElem _⟩, h1.free j⟩
/-- one track more -/
theorem Gnw.more (h : Gnw w5 w tb n D v j P Q) (hj : j < n) {b : Nat} (ht : Tf w w7 b (D j) [] [⟨0, 0, 0, v j⟩]) :
    Gnw w5 (w7.setCell ⟨tb, j, none⟩ (.pointer (some ⟨b, 0, none⟩))) tb n D v (j + 1) (fun t => if t = j then b else P t) (fun t => if t = j then Fr w w7 else Q t) := by
  have h7 := h.up ht.bel
  obtain ⟨cs, h1, h2, h3⟩ := h7.ptr
  have hlt := h.ptr
  obtain ⟨cs0, h10, _, _⟩ := hlt
  have htb := h10.lt
  have hk : Kp (fun g => g = tb) w7 (w7.setCell ⟨tb, j, none⟩ (.pointer (some ⟨b, 0, none⟩))) := Kp.set w7 _ _ (O := fun g => g = tb) rfl
  have hi : IntsStay w7 (w7.setCell ⟨tb, j, none⟩ (.pointer (some ⟨b, 0, none⟩))) := fun g cs' hh => hk.has hh fun e => hh.ne h1 (by decide) e
  have hql : ∀ t, t < j → ∀ g, Q t g → g < w.heap.size := fun t ht' g hg => (h.trk t ht').lt g hg
  refine ⟨⟨_, h1.put j _, by rw [Array.size_setIfInBounds]; exact h2, fun t ht' => ?_⟩, fun t ht' => ?_, fun t u ht' hu htu g => ?_, fun t ht' g => ?_, h.tb0, ?_⟩
  · rw [Array.getElem?_setIfInBounds]
    by_cases q : j = t
    · subst q; rw [if_pos rfl, if_pos (by omega), if_pos rfl]
    · rw [if_neg q, if_neg (fun e => q e.symm)]; exact h3 t (by omega)
  · by_cases q : t = j
    · subst q; simp only [if_true]
      exact ht.tk.keepI hk hi fun g hg e => by have := hg.1; omega
    · simp only [if_neg q]
      exact (h7.trk t (by omega)).keepI hk hi fun g hg e => (h.new t (by omega) g hg).2 e
  · by_cases q1 : t = j
    · subst q1
      have q2 : u ≠ t := fun e => htu e.symm
      simp only [if_true, if_neg q2]
      intro hg hg2
      have := hql u (by omega) g hg2
      have := hg.1
      omega
    · simp only [if_neg q1]
      by_cases q2 : u = j
      · subst q2
        simp only [if_true]
        intro hg hg2
        have := hql t (by omega) g hg
        have := hg2.1
        omega
      · simp only [if_neg q2]
        exact h.apart t u (by omega) (by omega) htu g
  · by_cases q : t = j
    · subst q; simp only [if_true]
      intro hg
      have := hg.1
      have := h.bel.size
      exact ⟨by omega, by omega⟩
    · simp only [if_neg q]
      exact h.new t (by omega) g
  · exact h7.bel.setCell h.tb0 _
end
/-- what tracks answers -/
def TracksR (w : World) (n : Nat) (D : Nat → Dt) (v : Nat → Int) (e : Ending) (w' : World) : Prop := ∃ tb P Q, e = .returned (.slice (some ⟨tb, 0, none⟩) n n) ∧ Gnw w w' tb n D v n P Q
set_option maxRecDepth 100000 in
set_option maxHeartbeats 8000000 in
theorem cxtracks_any {w : World} {a : Option Addr} {X : List DuX} (m cap p : Nat) (D : Nat → Dt) (v : Nat → Int) (hm : X.length = m) (hn : m ≤ 64) (h : DusA w a X) (hD : ∀ t y, X[t]? = some y → D t = y.d.dt ∧ dtB y.d.dt = true ∧ y.a ≠ none ∧ y.d.ls.length ≤ 1000 ∧ Am y.d.un) (hp : Ints w p m v) (hv : ∀ t, t < m → 0 ≤ v t ∧ Am (v t)) :
    Calls Tryz.prog 70 #[.slice a m cap, .slice (some ⟨p, 0, none⟩) m m] w (TracksR w m D v) := by
  unfold TracksR
  have HL := Lib.hid h
  have HN := Lib.hid hm
  have HD := Lib.hid hD
  have HP := Lib.hid hp
  have HV := Lib.hid hv
  obtain ⟨n, hnn⟩ : ∃ n, n = m := ⟨_, rfl⟩
  rw [← hnn] at HN HP HV hn ⊢
  clear h hD hm hnn hp hv
  obtain ⟨i0, hi, hz0, hz1, hz2⟩ := info_parts infoPT
  go_enter Tryz.func70, Tryz.ntmps70
  go_wp2_with (at_make; refine wpList_make_full _ rfl _ _ 92 rfl w.heap.size 96 i0 (.pointer none) 1 Tryz.underlying92 hi hz0 hz1 .i64 .i64 _ _ n rfl rfl ?c1 ?c2 ?c3 ?c4 ?c5 ?_)
  case c1 => rfl
  case c2 => rfl
  case c3 => rw [hz2]; omega
  case c4 => unfold maxLen; omega
  case c5 => exact Nat.le_refl _
  intro w1 hown hgrow
  have hb1 : Below w.heap.size w w1 := (Below.refl _ _).grown hgrow (Nat.le_refl _) (fun k hk => by simp at hk)
  have HI := Lib.hid (Gnw.start (D := D) (v := v) hown hb1 (Nat.le_refl _))
  obtain ⟨g, hg⟩ : ∃ g, g = w.heap.size := ⟨_, rfl⟩
  rw [← hg] at HI
  rw [← hg]
  clear hown hgrow hb1 hg hi hz0 hz1 hz2 i0
  go_wp2_with fail
  go_loopw [13] (fun i wr => ∃ k : Nat, k ≤ n ∧ i = .int .i64 (k : Int) ∧ ∃ P Q, Gnw w wr g n D v k P Q) (fun i _ => n - (intOf i).toNat)
  case atStart => exact ⟨0, Nat.zero_le _, rfl, _, _, HI.out⟩
  case round =>
    obtain ⟨k, hk, rfl, P, Q, hC⟩ := hrel
    have HC := Lib.hid hC
    have HBr := Lib.hid hC.bel
    clear hC
    by_cases hlt : k < n
    · obtain ⟨y, hy⟩ : ∃ y, X[k]? = some y := ⟨X[k]'(by rw [HN.out]; exact hlt), List.getElem?_eq_getElem _⟩
      obtain ⟨d1, d2, d3, d4, d5⟩ := HD.out k y hy
      obtain ⟨b, o, ha, c0, c1, c2, c3, c4, c5, hls⟩ := dus_at (HL.out.up HBr.out) hy
      subst ha
      have hvk := HV.out k hlt
      have HNew := Lib.hid (fun (W : World) (q : Below wr.heap.size wr W) => trnew_yes (w := W) (d := y.d.dt) (a := y.a) (c := y.cap) (v k) (by unfold Du.dt; simp only [List.length_map]; omega) ((ns_ins hls).up q) (fun e => absurd e d3) d2 hvk.1 hvk.2 d5)
      simp only [← dux_val] at HNew
      have HMore := Lib.hid (fun (W W7 : World) (bb : Nat) (q : Gnw w W g n D v k P Q) (z : Tf W W7 bb y.d.dt [] [⟨0, 0, 0, v k⟩]) => q.more hlt (by rw [d1]; exact z))
      have HE : Hid (∃ z, z = y.d.dt) := Lib.hid ⟨_, rfl⟩
      obtain ⟨Y, hY⟩ := HE.out
      rw [← hY] at HNew HMore
      obtain ⟨u, hu⟩ : ∃ u, u = v k := ⟨_, rfl⟩
      have kv := kcell HBr.out (HP.out k hlt).1
      rw [← hu] at HNew HMore kv
      obtain ⟨ym, hym⟩ : ∃ z, z = y.d.ls.length := ⟨_, rfl⟩
      obtain ⟨yc, hyc⟩ : ∃ z, z = y.cap := ⟨_, rfl⟩
      obtain ⟨ya, hya⟩ : ∃ z, z = y.a := ⟨_, rfl⟩
      obtain ⟨al, hal⟩ : ∃ z, z = y.d.al := ⟨_, rfl⟩
      obtain ⟨un, hun⟩ : ∃ z, z = y.d.un := ⟨_, rfl⟩
      obtain ⟨me, hme⟩ : ∃ z, z = y.d.me := ⟨_, rfl⟩
      obtain ⟨fi, hfi⟩ : ∃ z, z = y.d.fi := ⟨_, rfl⟩
      obtain ⟨la, hla⟩ : ∃ z, z = y.d.la := ⟨_, rfl⟩
      rw [← hym, ← hyc, ← hya] at c0
      rw [← hal] at c1
      rw [← hun] at c2
      rw [← hme] at c3
      rw [← hfi] at c4
      rw [← hla] at c5
      rw [← hym, ← hyc, ← hya, ← hal, ← hun, ← hme, ← hfi, ← hla] at HNew
      have HX0 := Lib.hid (Has.fresh wr 51 #[.slice ya ym yc, .int .i64 al, .int .i64 un, .int .i64 me, .int .i64 fi, .int .i64 la])
      have hk0 : (0 : Int) ≤ (k : Int) := by omega
      have hk1 : (k : Int) < (n : Int) := by omega
      have e1 : IntKind.i64.wrap ((k : Int) + 1) = (k : Int) + 1 := IntWalk.i64_in _ (by omega)
      clear hy d1 d2 d3 d4 d5 hls hvk hY HE hu hym hyc hya hal hun hme hfi hla
      go_wp2_with fail
      obtain ⟨W0, hW0⟩ : ∃ W0, W0 = wr.alloc (.cells #[.slice ya ym yc, .int .i64 al, .int .i64 un, .int .i64 me, .int .i64 fi, .int .i64 la] 51) := ⟨_, rfl⟩
      have HB0 : Hid (Below wr.heap.size wr W0) := by rw [hW0]; exact Lib.hid (boxed _ _)
      rw [← hW0] at HX0 ⊢
      obtain ⟨yb, hyb⟩ : ∃ yb, yb = wr.heap.size := ⟨_, rfl⟩
      rw [← hyb] at HX0 ⊢
      have HC0 := Lib.hid ((HC.out.up HB0.out).up (Below.refl _ _).drew)
      have HGo := Lib.hid (HNew.out W0.drew HB0.out.drew)
      have HCl := Lib.hid (fun (W7 : World) (q : Below W0.drew.heap.size W0.drew W7) => (HC0.out.up q).cell hlt)
      have x0 := HX0.out.cell 0
      have x1 := HX0.out.cell 1
      have x2 := HX0.out.cell 2
      have x3 := HX0.out.cell 3
      have x4 := HX0.out.cell 4
      have x5 := HX0.out.cell 5
      simp at x0 x1 x2 x3 x4 x5
      have kv := kcell HB0.out kv
      clear hW0 hyb c0 c1 c2 c3 c4 c5
      go_region_with (first | (go_at_call 103; ((with_reducible refine (HGo.out).mono ?_); rintro e' w7 ⟨bb, rfl, hT⟩; have kM := Lib.hid (HMore.out _ w7 bb HC0.out hT); obtain ⟨⟨uu, g0⟩, g1⟩ := HCl.out w7 hT.bel; clear hT)))
      all_goals
        go_wp2_with fail
        exact ⟨⟨k + 1, by omega, by go_num, _, _, kM.out⟩, by simp [intOf]; omega⟩
    · obtain rfl : k = n := by omega
      go_wp2_with fail
      go_ret
      exact ⟨g, P, Q, rfl, HC.out⟩
end Go.Proofs.YtklaonoekmhakaaGreat

namespace Go.Proofs.YtklaonoekmhakaaGreat
open Go.RowKit

set_option maxHeartbeats 1000000 in
theorem sure_any (x : Mb) (b : Int) (w : World) (h0 : 0 ≤ b) (h1 : b ≤ 10000) : Calls Tryz.prog 139 #[x.val, .int .i64 b] w fun e w' => e = .returned (.bool (surP b x)) ∧ Below w.heap.size w w' := by
  obtain ⟨am, ch⟩ := x
  unfold Mb.val surP
  by_cases q : 0 < am
  · simp only [q, if_true]
    go_enter Tryz.func139, Tryz.ntmps139
    go_wp2_with fail
    go_ret
    exact ⟨rfl, boxed _ _⟩
  · simp only [q, if_false]
    have hw : IntKind.i64.wrap (10000 - b) = 10000 - b := IntWalk.i64_in _ (by omega)
    go_enter Tryz.func139, Tryz.ntmps139
    go_wp2_with fail
    go_ret
    exact ⟨rfl, boxed _ _⟩

set_option maxHeartbeats 1000000 in
theorem ifSure_any (x : Mb) (b : Int) (w : World) (h0 : 0 ≤ b) (h1 : b ≤ 10000) : Calls Tryz.prog 102 #[x.val, .int .i64 b] w fun e w' => e = .returned (.int .i64 (ptsS b x)) ∧ Below w.heap.size w w' := by
  have HS := Lib.hid (fun W => sure_any x b W h0 h1)
  obtain ⟨am, ch⟩ := x
  unfold Mb.val at HS ⊢
  unfold ptsS
  cases q : surP b ⟨am, ch⟩ with
  | true =>
    rw [q] at HS
    rw [if_pos rfl]
    clear q
    go_enter Tryz.func102, Tryz.ntmps102
    go_wp2_with fail
    refine (HS.out _).mono ?_
    rintro e w1 ⟨rfl, hb⟩
    have HB := Lib.hid (up2 (boxed _ _) hb)
    clear hb
    go_wp2_with fail
    go_ret
    exact ⟨rfl, HB.out⟩
  | false =>
    rw [q] at HS
    rw [if_neg (by decide)]
    clear q
    go_enter Tryz.func102, Tryz.ntmps102
    go_wp2_with fail
    refine (HS.out _).mono ?_
    rintro e w1 ⟨rfl, hb⟩
    have HB := Lib.hid (up2 (boxed _ _) hb)
    clear hb
    go_wp2_with fail
    go_ret
    exact ⟨rfl, HB.out⟩

def ptB (n : Int) : Bool := decide (0 ≤ n) && decide (n ≤ 10000)
set_option maxHeartbeats 1000000 in
theorem isPoints_any (n : Int) (w : World) : Calls Tryz.prog 149 #[.int .i64 n] w fun e w' => e = .returned (.bool (ptB n)) ∧ w = w' := by
  unfold ptB
  by_cases h : 0 ≤ n
  · rw [decide_eq_true h, Bool.true_and]
    go_enter Tryz.func149, Tryz.ntmps149
    go_wp2
    go_ret
    exact ⟨rfl, rfl⟩
  · rw [decide_eq_false h, Bool.false_and]
    go_enter Tryz.func149, Tryz.ntmps149
    go_wp2
    go_ret
    exact ⟨rfl, rfl⟩

set_option maxRecDepth 100000 in
set_option maxHeartbeats 4000000 in
theorem cock_any (f b : Int) (a : Option Addr) (cap : Nat) (l : List Mb) (w : World) (hl : MbA w a l) : Calls Tryz.prog 137 #[.int .i64 f, .slice a l.length cap, .int .i64 b] w fun e w' => e = .returned (.int .i64 (wrE f l b)) ∧ Below w.heap.size w w' := by
  obtain ⟨n, hn⟩ : ∃ n, n = l.length := ⟨_, rfl⟩
  have hE : wrE f l b = if 32 < n then 4 else if f < 0 ∨ b < 0 ∨ 10000 < b then 1 else if l.all mbB = true then 0 else 1 := by rw [hn]; rfl
  rw [hE, ← hn]
  clear hE
  by_cases q1 : 32 < n
  · rw [if_pos q1]
    have q1' : ((32 : Int) < (n : Int)) := by omega
    clear hl hn
    go_enter Tryz.func137, Tryz.ntmps137
    go_wp2_with fail
    go_ret
    exact ⟨rfl, Below.refl _ _⟩
  · rw [if_neg q1]
    have hlen : n ≤ 32 := by omega
    have HP := Lib.hid (fun m W => isPoints_any m W)
    by_cases q2 : f < 0
    · rw [if_pos (.inl q2)]
      clear hl hn q1
      go_enter Tryz.func137, Tryz.ntmps137
      go_wp2_with fail
      go_ret
      exact ⟨rfl, Below.refl _ _⟩
    · by_cases q3 : b < 0 ∨ 10000 < b
      · rw [if_pos (.inr q3)]
        have hp : ptB b = false := by
          unfold ptB
          rcases q3 with q3 | q3
          · rw [decide_eq_false (by omega), Bool.false_and]
          · rw [decide_eq_false (p := b ≤ 10000) (by omega), Bool.and_false]
        have h0 := isPoints_any b
        rw [hp] at h0
        have H0 := Lib.hid h0
        clear hl hn q1 q3 hp h0
        go_enter Tryz.func137, Tryz.ntmps137
        go_wp2_with fail
        refine (H0.out _).mono ?_
        rintro e w1 ⟨rfl, rfl⟩
        go_wp2_with fail
        go_ret
        exact ⟨rfl, Below.refl _ _⟩
      · rw [if_neg (by omega)]
        have hp : ptB b = true := by
          unfold ptB
          rw [decide_eq_true (by omega), decide_eq_true (p := b ≤ 10000) (by omega)]; rfl
        have h0 := isPoints_any b
        rw [hp] at h0
        have H0 := Lib.hid h0
        obtain ⟨E, hE⟩ : ∃ E : Int, E = if l.all mbB = true then 0 else 1 := ⟨_, rfl⟩
        rw [← hE]
        have HE := Lib.hid hE
        have HL := Lib.hid hl
        have HN := Lib.hid hn
        clear hl hn q1 q3 hp h0 hE
        go_enter Tryz.func137, Tryz.ntmps137
        go_wp2_with fail
        refine (H0.out _).mono ?_
        rintro e w1 ⟨rfl, rfl⟩
        go_wp2_with fail
        go_loopw [21] (fun i wr => ∃ k : Nat, k ≤ n ∧ i = .int .i64 (k : Int) ∧ (∀ t x, t < k → l[t]? = some x → mbB x = true) ∧ Below w.heap.size w wr) (fun i _ => n - (intOf i).toNat)
        case atStart => exact ⟨0, Nat.zero_le _, rfl, fun t x ht _ => by omega, Below.refl _ _⟩
        case round =>
          obtain ⟨k, hk, rfl, hall, hb⟩ := hrel
          have HA := Lib.hid hall
          have HB := Lib.hid hb
          clear hall hb
          by_cases hlt : k < n
          · obtain ⟨x, hx⟩ : ∃ x, l[k]? = some x := ⟨l[k]'(by rw [← HN.out]; exact hlt), List.getElem?_eq_getElem _⟩
            obtain ⟨bb, o, ha, c0, c1⟩ := mb_at (HL.out.up HB.out) hx
            subst ha
            have HX := Lib.hid hx
            clear hx
            go_wp2_with fail
            refine (HP.out x.ch _).mono ?_
            rintro e w1 ⟨rfl, rfl⟩
            have HB1 := Lib.hid (HB.out.alloc HB.out.size (.cells #[.int .i64 x.am, .int .i64 x.ch] 84))
            cases q : ptB x.ch with
            | true =>
              have HQ : Hid (mbB x = true) := q
              clear q
              go_wp2_with fail
              go_roundw
              case rel =>
                refine ⟨k + 1, by omega, by go_num, fun t y ht hy => ?_, HB1.out⟩
                by_cases z : t = k
                · subst z; rw [HX.out] at hy; obtain rfl := Option.some.inj hy; exact HQ.out
                · exact HA.out t y (by omega) hy
              case measure => simp [intOf]; omega
            | false =>
              have hno : ¬ l.all mbB = true := fun z => by
                have := List.all_eq_true.1 z x (List.mem_of_getElem? HX.out)
                rw [show mbB x = false from q] at this; cases this
              have hE : E = 1 := by rw [HE.out, if_neg hno]
              subst hE
              clear q hno
              go_wp2_with fail
              go_ret
              exact ⟨rfl, HB1.out⟩
          · have hyes : l.all mbB = true := List.all_eq_true.2 fun x hx => by
              obtain ⟨i, hi⟩ := List.getElem?_of_mem hx
              have := (List.getElem?_eq_some_iff.1 hi).1
              exact HA.out i x (by rw [← HN.out] at this; omega) hi
            have hE : E = 0 := by rw [HE.out, if_pos hyes]
            subst hE
            clear hyes
            go_wp2_with fail
            go_ret
            exact ⟨rfl, HB.out⟩
end Go.Proofs.YtklaonoekmhakaaGreat

namespace Go.Proofs.YtklaonoekmhakaaGreat
open Go.RowKit

theorem infoI64o : (Tryz.prog.info? 2).map (fun i => (i.zero, i.size, i.bytes)) = some (some (.int .i64 0), 1, 8) := by kernel_rfl
/-- a block of numbers that may be written -/
def IntsO (W : World) (g n : Nat) (f : Nat → Int) : Prop := ∀ t, t < n → W.cell? ⟨g, t, none⟩ = some (.int .i64 (f t)) ∧ W.frozen? ⟨g, t, none⟩ = false
theorem made_intsO {w1 : World} {base g n : Nat} {e : TypeId} (h : w1.ownsRow base e 1 (.slice (some ⟨g, 0, none⟩) n n) n (madeCells #[Value.int .i64 0] n).toList) : IntsO w1 g n (fun _ => 0) := by
  rw [toList_madeCells_one] at h
  intro t ht
  refine ⟨?_, h.frozenAt t⟩
  rw [h.cellAt t (by simpa using ht)]
  rw [List.getElem?_replicate]; simp; omega
theorem IntsO.up {W W' : World} {g n : Nat} {f : Nat → Int} (h : IntsO W g n f) (q : Below W.heap.size W W') : IntsO W' g n f := fun t ht =>
  ⟨kcell q (h t ht).1, (q.frozen (p := ⟨g, t, none⟩) (World.block_lt_of_cell? _ _ (h t ht).1)).trans (h t ht).2⟩
theorem IntsO.put {W : World} {g n : Nat} {f : Nat → Int} (h : IntsO W g n f) {k : Nat} (v : Int) {f' : Nat → Int} (hf : ∀ t, t < n → f' t = if t = k then v else f t) : IntsO (W.setCell ⟨g, k, none⟩ (.int .i64 v)) g n f' := fun t ht => by
  rw [hf t ht]
  by_cases q : t = k
  · subst q; rw [if_pos rfl]; exact ⟨csame (h t ht).1, fset (h t ht).2⟩
  · rw [if_neg q]; exact ⟨cset (h t ht).1 (.inr q), fset (h t ht).2⟩
def mbAt (l : List Mb) (k : Nat) : Mb := (l[k]?).getD ⟨0, 0⟩
theorem mbAt_some {l : List Mb} {k : Nat} {x : Mb} (h : l[k]? = some x) : mbAt l k = x := by unfold mbAt; rw [h]; rfl
theorem sumM_take {g : Mb → Int} {l : List Mb} {k : Nat} {x : Mb} (h : l[k]? = some x) : sumM g (l.take (k + 1)) = sumM g (l.take k) + g x := by
  rw [List.take_add_one, h, sumM_append]; simp [sumM]
def intV (n : Int) : Value := .int .i64 n
/-- a row of numbers of a call's own -/
abbrev OwI (W : World) (B : Nat) (v : Value) (z : List Int) : Prop := W.ownsRow B 2 1 v z.length (z.map intV)
/-- one more number, where there is room or not -/
theorem owi_app {W : World} {B : Nat} {v : Value} {z : List Int} (h : OwI W B v z) (hz : z.length ≤ 1000) (hB : B ≤ W.heap.size) {y : Nat} {x : Int} (hy : Has W y 2 #[.int .i64 x]) (ty : TypeId) :
    ∃ v' w', (Builtin.append_ #[64, 64] ty #[v, .slice (some ⟨y, 0, none⟩) 1 1]).run Tryz.prog W = .ok v' w' ∧ OwI w' B v' (z ++ [x]) ∧ W.grownBy w' v.ownBlock := by
  obtain ⟨i, hi, hz0, hz1, hz2⟩ := info_parts infoI64o
  obtain ⟨v', w', hr, ho, hg, _⟩ := run_append_own_at (P := Tryz.prog) W B 64 ty 2 i _ 1 8 Tryz.underlying64 hi hz0 hz1 hz2 rfl (by decide) v z.length _ h ⟨y, 0, none⟩ 1 1 [.int .i64 x] rfl
    (fun j u hu => by
      rw [addr_off, Nat.zero_add, hy.cell]
      exact (List.getElem?_toArray (xs := [Value.int .i64 x]) (i := j)).trans hu)
    (fun u hu => by simp at hu; rw [hu]; rfl) (by unfold maxLen; omega) (by omega) hB
  refine ⟨v', w', hr, ?_, hg⟩
  show w'.ownsRow B 2 1 v' (z ++ [x]).length ((z ++ [x]).map intV)
  rw [List.length_append, List.map_append]; exact ho
/-- a block of a call's own, full: one more makes another -/
theorem ints_app {W : World} {g n : Nat} {f : Nat → Int} (h : IntsO W g n f) (hn : n ≤ 1000) {z : List Int} (hz : z.length = n) (hf : ∀ t x, z[t]? = some x → f t = x) {y : Nat} {x : Int} (hy : Has W y 2 #[.int .i64 x]) (ty : TypeId) :
    ∃ v' w', (Builtin.append_ #[64, 64] ty #[.slice (some ⟨g, 0, none⟩) n n, .slice (some ⟨y, 0, none⟩) 1 1]).run Tryz.prog W = .ok v' w' ∧ OwI w' W.heap.size v' (z ++ [x]) ∧ W.grownBy w' none := by
  obtain ⟨i, hi, hz0, hz1, hz2⟩ := info_parts infoI64o
  obtain ⟨v', w', hr, ho, hg⟩ := run_append_arg_grows (P := Tryz.prog) W 64 ty 2 i _ 1 8 Tryz.underlying64 hi hz0 hz1 hz2 rfl (by decide) ⟨g, 0, none⟩ n n (z.map intV) (by rw [List.length_map, hz, Nat.mul_one])
    (fun j u hu => by
      rw [addr_off, Nat.zero_add]
      rw [List.getElem?_map] at hu
      cases q : z[j]? with
      | none => rw [q] at hu; cases hu
      | some t =>
        rw [q] at hu
        have hj := (List.getElem?_eq_some_iff.1 q).1
        rw [(h j (by omega)).1, hf j t q]; exact hu)
    ⟨y, 0, none⟩ 1 1 [.int .i64 x] rfl
    (fun j u hu => by
      rw [addr_off, Nat.zero_add, hy.cell]
      exact (List.getElem?_toArray (xs := [Value.int .i64 x]) (i := j)).trans hu) (by omega) (by unfold maxLen; omega) (by omega)
  refine ⟨v', w', hr, ?_, hg⟩
  show w'.ownsRow W.heap.size 2 1 v' (z ++ [x]).length ((z ++ [x]).map intV)
  rw [List.length_append, List.map_append, hz]; exact ho
end Go.Proofs.YtklaonoekmhakaaGreat
