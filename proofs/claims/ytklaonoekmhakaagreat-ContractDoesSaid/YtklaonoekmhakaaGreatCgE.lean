/- The program's contract: change. -/
import Derived.Test.YtklaonoekmhakaaGreatCgC
import Derived.Test.YtklaonoekmhakaaGreatCtMem
import Derived.Test.YtklaonoekmhakaaGreatCfS
namespace Go.Proofs.YtklaonoekmhakaaGreat
open Go.RowKit

/-- the first tracks turned -/
def midG (T : List Trk) (g : Nat → Trk → Trk) (j : Nat) : List Trk := T.mapIdx fun t x => if t < j then g t x else x
section
variable {T : List Trk} {g : Nat → Trk → Trk} {j : Nat}
theorem midG_zero : midG T g 0 = T := by
  apply List.ext_getElem?
  intro i
  unfold midG
  rw [List.getElem?_mapIdx]
  cases T[i]? <;> simp
theorem midG_all (h : T.length ≤ j) : midG T g j = T.mapIdx g := by
  apply List.ext_getElem?
  intro i
  unfold midG
  rw [List.getElem?_mapIdx, List.getElem?_mapIdx]
  by_cases q : i < T.length
  · rw [List.getElem?_eq_getElem q]
    simp only [Option.map_some]
    rw [if_pos (by omega)]
  · rw [List.getElem?_eq_none (by omega)]; rfl
theorem midG_at (h : j < T.length) : (midG T g j).getD j trk0 = T.getD j trk0 := by
  unfold midG
  rw [List.getD_eq_getElem?_getD, List.getD_eq_getElem?_getD, List.getElem?_mapIdx, List.getElem?_eq_getElem h]
  simp
theorem midG_step (h : j < T.length) : (midG T g j).set j (g j (T.getD j trk0)) = midG T g (j + 1) := by
  apply List.ext_getElem?
  intro i
  rw [List.getElem?_set]
  unfold midG
  rw [List.length_mapIdx, List.getElem?_mapIdx, List.getElem?_mapIdx]
  by_cases q : j = i
  · subst q
    rw [if_pos rfl, if_pos h, List.getElem?_eq_getElem h, List.getD_eq_getElem?_getD, List.getElem?_eq_getElem h]
    simp
  · rw [if_neg q]
    cases T[i]? with
    | none => rfl
    | some x =>
      simp only [Option.map_some]
      by_cases q2 : i < j
      · rw [if_pos q2, if_pos (by omega)]
      · rw [if_neg q2, if_neg (by omega)]
end
/-- on the way through the tracks of a change: the first ones have turned; a list of numbers elsewhere stays -/
structure Gmid (w0 w : World) (O : Nat → Prop) (c : Nat) (P : Nat → Nat) (S : Ct) (g : Nat → Trk → Trk) (ab tb ac tc p : Nat) (v : Nat → Int) (j : Nat) : Prop where
  has : Has w c 94 #[.slice (some ⟨ab, 0, none⟩) S.n ac, .slice (some ⟨tb, 0, none⟩) S.n tc, .int .i64 S.N, .int .i64 S.la, .int .i64 (S.ch : Int)]
  pg : ∃ Q, Pg w (Nw O w0 w) c S.n (midG S.T g j) P Q ab tb S.alo
  lst : Ints w p S.n v
  p0 : p < w0.heap.size
  far : ¬ O p
  kp : Kp O w0 w
  sto : Sto w0 w
section
variable {w0 w w' : World} {O : Nat → Prop} {c : Nat} {P : Nat → Nat} {Q : Nat → Nat → Prop} {ab tb ac tc p j : Nat} {S : Ct} {g : Nat → Trk → Trk} {v : Nat → Int}
theorem Gmid.start (h : PgX w O c S P Q ab tb ac tc) (hl : Ints w p S.n v) (hp : p < w.heap.size) (hf : ¬ O p) : Gmid w w O c P S g ab tb ac tc p v 0 :=
  ⟨h.has, ⟨Q, by rw [midG_zero]; exact h.pg.mono (fun _ z => .inl z) fun _ z => Nw.widen (Nat.le_refl _) h.pg.lt z⟩, hl, hp, hf, Kp.refl _ _, fun _ _ _ hh _ => hh⟩
theorem Gmid.up (h : Gmid w0 w O c P S g ab tb ac tc p v j) (q : Below w.heap.size w w') : Gmid w0 w' O c P S g ab tb ac tc p v j := by
  obtain ⟨Q, hp⟩ := h.pg
  refine ⟨h.has.up q, ⟨Q, (hp.up q).mono (fun g hg => hg.imp id fun z => ⟨z.1, Nat.lt_of_lt_of_le z.2 q.size⟩) fun g hg => hg.elim (fun z => Nat.lt_of_lt_of_le (hp.lt g (.inl z)) q.size) fun z => z.2⟩, fun t ht => ?_, h.p0, h.far, h.kp.trans (Kp.of (O := O) q) (fun _ z => .inl z), h.sto.trans (Sto.of q)⟩
  have h1 := h.lst t ht
  have hlt : p < w.heap.size := World.block_lt_of_cell? (a := ⟨p, t, none⟩) _ h1.1
  exact ⟨kcell q h1.1, (World.frozen?_of_block (w := w) (q.block p hlt)).trans h1.2⟩
/-- the track whose turn it is -/
theorem Gmid.at (h : Gmid w0 w O c P S g ab tb ac tc p v j) (hj : j < S.n) : ∃ Q : Nat → Prop, Tk w Q (P j) (S.tr j).d (S.tr j).E (S.tr j).L ∧ ∀ w', TkR w Q (P j) (g j (S.tr j)).d (g j (S.tr j)).E (g j (S.tr j)).L w' → Gmid w0 w' O c P S g ab tb ac tc p v (j + 1) := by
  obtain ⟨Q, hp⟩ := h.pg
  have ht := hp.trk j hj
  rw [midG_at hj] at ht
  refine ⟨Q j, ht, fun w' z => ?_⟩
  have hsz := h.kp.size
  have hq : ∀ b, b < w0.heap.size → ¬ O b → ¬ Q j b := fun b hb hn e => by
    rcases hp.inQ j hj b e with q | q
    · exact hn q
    · omega
  have hk2 : Kp O w0 w' := h.kp.trans z.2.1 fun b e => by
    rcases hp.inQ j hj b e with q | q
    · exact .inl q
    · exact .inr q.1
  have hp2 := hp.turn hj z
  rw [show S.tr j = S.T.getD j trk0 from rfl] at hp2
  refine ⟨z.2.1.has h.has (hp.fc j hj), ⟨fun u => if u = j then Nw (Q j) w w' else Q u, ?_⟩, intsG_kp h.lst (z.2.1.block p (Nat.lt_of_lt_of_le h.p0 hsz) (hq p h.p0 h.far)), h.p0, h.far, hk2, h.sto.trans (Sto.oth z.2.2)⟩
  have e : (midG S.T g j).set j ⟨(g j (S.T.getD j trk0)).d, (g j (S.T.getD j trk0)).E, (g j (S.T.getD j trk0)).L⟩ = midG S.T g (j + 1) := midG_step hj
  rw [e] at hp2
  exact hp2.mono (fun b hb => hb.elim (fun q => q.imp id fun q => ⟨q.1, Nat.lt_of_lt_of_le q.2 z.2.1.size⟩) fun q => .inr ⟨Nat.le_trans hsz q.1, q.2⟩)
    fun b hb => hb.elim (fun q => Nat.lt_of_lt_of_le (Nat.lt_of_lt_of_le (by have := hp.lt b (.inl q); exact this) z.2.1.size) (Nat.le_refl _)) fun q => q.2
/-- the cells that a round reads -/
theorem Gmid.cells (h : Gmid w0 w O c P S g ab tb ac tc p v j) {t : Nat} (ht : t < S.n) :
    w.cell? ⟨tb, t, none⟩ = some (.pointer (some ⟨P t, 0, none⟩)) ∧ w.cell? ⟨p, t, none⟩ = some (.int .i64 (v t)) := by
  obtain ⟨Q, hp⟩ := h.pg
  exact ⟨hp.ptr t ht, (h.lst t ht).1⟩
/-- .. and the contract's own cells -/
theorem Gmid.done (h : Gmid w0 w O c P S g ab tb ac tc p v S.n) {N la : Int} {ch : Nat} (hF : FineC ⟨N, la, ch, S.T.mapIdx g⟩) (hg : ∀ t x, (g t x).d = x.d) (hls : ∀ x ∈ S.T, x.d.ls.length ≤ 1000) :
    Pgc (((w.setCell ⟨c, 2, none⟩ (.int .i64 N)).setCell ⟨c, 3, none⟩ (.int .i64 la)).setCell ⟨c, 4, none⟩ (.int .i64 (ch : Int))) (Nw O w0 (((w.setCell ⟨c, 2, none⟩ (.int .i64 N)).setCell ⟨c, 3, none⟩ (.int .i64 la)).setCell ⟨c, 4, none⟩ (.int .i64 (ch : Int)))) c ⟨N, la, ch, S.T.mapIdx g⟩
    ∧ Kp O w0 (((w.setCell ⟨c, 2, none⟩ (.int .i64 N)).setCell ⟨c, 3, none⟩ (.int .i64 la)).setCell ⟨c, 4, none⟩ (.int .i64 (ch : Int)))
    ∧ Sto w0 (((w.setCell ⟨c, 2, none⟩ (.int .i64 N)).setCell ⟨c, 3, none⟩ (.int .i64 la)).setCell ⟨c, 4, none⟩ (.int .i64 (ch : Int))) := by
  obtain ⟨Q, hp⟩ := h.pg
  have hn : (Ct.mk N la ch (S.T.mapIdx g)).n = S.n := by simp [Ct.n]
  have hal : (Ct.mk N la ch (S.T.mapIdx g)).alo = S.alo := by
    funext t
    unfold Ct.alo Ct.tr
    simp only [List.getD_eq_getElem?_getD, List.getElem?_mapIdx]
    cases S.T[t]? with
    | none => rfl
    | some x => simp [hg]
  have s2 := Has.put h.has 2 (.int .i64 N)
  have s3 := Has.put s2 3 (.int .i64 la)
  have s4 := Has.put s3 4 (.int .i64 (ch : Int))
  have hk := ((Kp.grown (O := fun g => g = c) (grown_trans (grown_trans (grown_set w c 2 (.int .i64 N)) (grown_set _ c 3 (.int .i64 la))) (grown_set _ c 4 (.int .i64 (ch : Int)))) fun j hj => .inl (by injection hj with hj; exact hj.symm)))
  have hp4 := ((hp.put h.has 2 (.int .i64 N)).put s2 3 (.int .i64 la)).put s3 4 (.int .i64 (ch : Int))
  rw [midG_all (show S.T.length ≤ S.n from Nat.le_refl _)] at hp4
  have hoc := hp.oc
  have hc : O c ∨ w0.heap.size ≤ c := hoc.imp id fun z => z.1
  refine ⟨⟨P, Q, ab, tb, ac, tc, ?_, ?_, hF, fun x hx => ?_⟩, h.kp.trans hk fun b e => by rw [e]; exact hc, ((h.sto.trans (Sto.put h.has 2 _)).trans (Sto.put s2 3 _)).trans (Sto.put s3 4 _)⟩
  · rw [hn]; simpa using s4
  · rw [hn, hal]
    exact hp4.mono (fun b z => z.imp id fun z => ⟨z.1, Nat.lt_of_lt_of_le z.2 hk.size⟩) fun b z => z.elim (fun z => Nat.lt_of_lt_of_le (hp.lt b (.inl z)) hk.size) fun z => z.2
  · obtain ⟨t, ht⟩ := List.getElem?_of_mem hx
    have hl := (List.getElem?_eq_some_iff.1 ht).1
    rw [List.length_mapIdx] at hl
    rw [List.getElem?_mapIdx, List.getElem?_eq_getElem hl] at ht
    injection ht with ht
    subst ht
    rw [hg]
    exact hls _ (List.getElem_mem hl)
/-- what a change of all tracks answers -/
def ChangeR (w : World) (O : Nat → Prop) (c : Nat) (S' : Ct) (w' : World) : Prop := Pgc w' (Nw O w w') c S' ∧ Kp O w w' ∧ Sto w w'
set_option maxRecDepth 100000 in
set_option maxHeartbeats 8000000 in
theorem cxchange_any (F : FuncId) (hRun : ∀ (U : Array Value) (W : World), (callFunc F U).run Tryz.prog W = .ok (.enter F U) W) (h : PgX w O c S P Q ab tb ac tc) (day N : Int) (hch : S.ch < 40) (hl : Ints w p S.n v) (hp : p < w.heap.size) (hf : ¬ O p)
    (hF : FineC ⟨N, day, S.ch + 1, S.T.mapIdx g⟩) (hg : ∀ t x, (g t x).d = x.d)
    (hC : ∀ (W : World) (R : Nat → Prop) (t : Nat), t < S.n → Tk W R (P t) (S.tr t).d (S.tr t).E (S.tr t).L → Calls Tryz.prog F #[.pointer (some ⟨P t, 0, none⟩), .int .i64 day, .int .i64 (v t)] W fun e w' => (∃ X, e = .returned (.int .i64 X)) ∧ TkR W R (P t) (g t (S.tr t)).d (g t (S.tr t)).E (g t (S.tr t)).L w') :
    Calls Tryz.prog 56 #[.pointer (some ⟨c, 0, none⟩), .int .i64 day, .int .i64 N, .slice (some ⟨p, 0, none⟩) S.n S.n, .func (.func F) #[] #[]] w fun e w' => e = .returned (.tuple #[]) ∧ ChangeR w O c ⟨N, day, S.ch + 1, S.T.mapIdx g⟩ w' := by
  unfold ChangeR
  have hn := h.fine.n1
  have c1 := h.c1
  have HRun := Lib.hid hRun
  have HM0 := Lib.hid (Gmid.start (g := g) (v := v) h hl hp hf)
  have HLs := Lib.hid h.lsn
  have HDone := Lib.hid (fun (W : World) (q : Gmid w W O c P S g ab tb ac tc p v S.n) => q.done hF hg HLs.out)
  have HCells := Lib.hid (fun (W : World) (j t : Nat) (ht : t < S.n) (q : Gmid w W O c P S g ab tb ac tc p v j) => q.cells ht)
  have HHas := Lib.hid (fun (W : World) (q : Gmid w W O c P S g ab tb ac tc p v S.n) => q.has)
  have HStep : Hid (∀ (W : World) (t : Nat), t < S.n → Gmid w W O c P S g ab tb ac tc p v t → Calls Tryz.prog F #[.pointer (some ⟨P t, 0, none⟩), .int .i64 day, .int .i64 (v t)] W fun e w' => (∃ X, e = .returned (.int .i64 X)) ∧ Gmid w w' O c P S g ab tb ac tc p v (t + 1)) := Lib.hid fun W t ht q => by
    obtain ⟨R, h1, h2⟩ := q.at ht
    exact (hC W R t ht h1).mono fun e w' z => ⟨z.1, h2 w' z.2⟩
  obtain ⟨G, hG⟩ : ∃ G : World → Nat → Prop, G = fun W j => Gmid w W O c P S g ab tb ac tc p v j := ⟨_, rfl⟩
  have HM0 : Hid (G w 0) := by rw [hG]; exact HM0
  have HDone : Hid (∀ W, G W S.n → Pgc (((W.setCell ⟨c, 2, none⟩ (.int .i64 N)).setCell ⟨c, 3, none⟩ (.int .i64 day)).setCell ⟨c, 4, none⟩ (.int .i64 ((S.ch + 1 : Nat) : Int))) (Nw O w (((W.setCell ⟨c, 2, none⟩ (.int .i64 N)).setCell ⟨c, 3, none⟩ (.int .i64 day)).setCell ⟨c, 4, none⟩ (.int .i64 ((S.ch + 1 : Nat) : Int)))) c ⟨N, day, S.ch + 1, S.T.mapIdx g⟩
    ∧ Kp O w (((W.setCell ⟨c, 2, none⟩ (.int .i64 N)).setCell ⟨c, 3, none⟩ (.int .i64 day)).setCell ⟨c, 4, none⟩ (.int .i64 ((S.ch + 1 : Nat) : Int)))
    ∧ Sto w (((W.setCell ⟨c, 2, none⟩ (.int .i64 N)).setCell ⟨c, 3, none⟩ (.int .i64 day)).setCell ⟨c, 4, none⟩ (.int .i64 ((S.ch + 1 : Nat) : Int)))) := by rw [hG]; exact HDone
  have HCells : Hid (∀ (W : World) (j t : Nat), t < S.n → G W j → W.cell? ⟨tb, t, none⟩ = some (.pointer (some ⟨P t, 0, none⟩)) ∧ W.cell? ⟨p, t, none⟩ = some (.int .i64 (v t))) := by rw [hG]; exact HCells
  have HHas : Hid (∀ W, G W S.n → Has W c 94 #[.slice (some ⟨ab, 0, none⟩) S.n ac, .slice (some ⟨tb, 0, none⟩) S.n tc, .int .i64 S.N, .int .i64 S.la, .int .i64 (S.ch : Int)]) := by rw [hG]; exact HHas
  have HStep : Hid (∀ (W : World) (t : Nat), t < S.n → G W t → Calls Tryz.prog F #[.pointer (some ⟨P t, 0, none⟩), .int .i64 day, .int .i64 (v t)] W fun e w' => (∃ X, e = .returned (.int .i64 X)) ∧ G w' (t + 1)) := by rw [hG]; exact HStep
  generalize (Ct.mk N day (S.ch + 1) (S.T.mapIdx g)) = S' at HDone ⊢
  generalize S.n = n at hn c1 HDone HCells HHas HStep ⊢
  generalize S.ch = ch at hch HDone HHas
  generalize S.N = N0 at HHas
  generalize S.la = la0 at HHas
  clear h hl hp hf hF hg hC HLs hG hRun
  go_enter Tryz.func56, Tryz.ntmps56
  go_wp2_with fail
  clear c1
  go_loopw [17] (fun i wr => ∃ k : Nat, k ≤ n ∧ i = .int .i64 (k : Int) ∧ G wr k) (fun i _ => n - (intOf i).toNat)
  case atStart => exact ⟨0, Nat.zero_le _, rfl, HM0.out⟩
  case round =>
    obtain ⟨k, hk, rfl, hM⟩ := hrel
    have HM := Lib.hid hM
    clear hM
    by_cases hlt : k < n
    · obtain ⟨z0, z1⟩ := HCells.out wr k k hlt HM.out
      have HQ := Lib.hid (HStep.out wr k hlt HM.out)
      obtain ⟨b, hb⟩ : ∃ b, b = P k := ⟨_, rfl⟩
      obtain ⟨u, hu⟩ : ∃ u, u = v k := ⟨_, rfl⟩
      rw [← hb, ← hu] at HQ
      rw [← hb] at z0
      rw [← hu] at z1
      have hk0 : (0 : Int) ≤ (k : Int) := by omega
      have hk1 : (k : Int) < (n : Int) := by omega
      have e1 : IntKind.i64.wrap ((k : Int) + 1) = (k : Int) + 1 := IntWalk.i64_in _ (by omega)
      have hrun := HRun.out #[.pointer (some ⟨b, 0, none⟩), .int .i64 day, .int .i64 u]
      clear hb hu
      go_wp2_with fail
      refine HQ.out.mono ?_
      rintro e w3 ⟨⟨X, rfl⟩, hM⟩
      have HM3 := Lib.hid hM
      clear hM z0 z1 hrun
      go_wp2_with fail
      exact ⟨⟨k + 1, by omega, by go_num, HM3.out⟩, by simp [intOf]; omega⟩
    · obtain rfl : k = n := by omega
      have h0 := HHas.out wr HM.out
      have d2 := h0.cell 2
      have d3 := h0.cell 3
      have d4 := h0.cell 4
      have f2 := h0.free 2
      have f3 := h0.free 3
      have f4 := h0.free 4
      simp at d2 d3 d4
      have HD := Lib.hid (HDone.out wr HM.out)
      rw [show ((ch + 1 : Nat) : Int) = (ch : Int) + 1 by omega] at HD
      have e1 : IntKind.i64.wrap ((ch : Int) + 1) = (ch : Int) + 1 := IntWalk.i64_in _ (by omega)
      clear h0
      go_wp2_with fail
      go_end0
      exact ⟨rfl, HD.out⟩
end
end Go.Proofs.YtklaonoekmhakaaGreat

namespace Go.Proofs.YtklaonoekmhakaaGreat
open Go.RowKit

section
variable {w w' w2 : World} {O : Nat → Prop} {c : Nat} {P : Nat → Nat} {Q : Nat → Nat → Prop} {ab tb ac tc p : Nat} {S S' : Ct} {X : Int}
theorem ChangeR.from (hb : Below w.heap.size w w') (hl : ∀ g, O g → g < w.heap.size) (h : ChangeR w' O c S' w2) : ChangeR w O c S' w2 :=
  ⟨h.1.mono (fun _ hg => hg.imp id fun z => ⟨Nat.le_trans hb.size z.1, z.2⟩) (fun _ hg => hg.elim (fun z => Nat.lt_of_lt_of_le (hl _ z) (Nat.le_trans hb.size h.2.1.size)) fun z => z.2),
    (Kp.of hb).trans h.2.1 (fun _ q => .inl q), (Sto.of hb).trans h.2.2⟩
theorem ChangeR.pcr (h : ChangeR w O c S' w') (hX : X = 0) : PcR Pgc w O c S' X (.returned (.int .i64 0)) w' := ⟨by rw [hX], h⟩
theorem PcR.no (h : PgX w O c S P Q ab tb ac tc) (hS : S' = S) (hb : Below w.heap.size w w') : PcR Pgc w O c S' X (.returned (.int .i64 X)) w' := by rw [hS]; exact PcR.same h.pc hb
theorem ends_all {day : Int} : ∀ n, S.ends day n = true → ∀ t, t < n → S.whoB day t = true := by
  intro n
  induction n with
  | zero => intro _ t ht; omega
  | succ n ih =>
    intro h t ht
    have h : (S.ends day n && S.whoB day n) = true := h
    rw [Bool.and_eq_true] at h
    by_cases q : t = n
    · rw [q]; exact h.2
    · exact ih h.1 t (by omega)
theorem max_zero {f : Nat → Int} {n : Nat} (h0 : 0 < n) (h : ∀ t, t < n → f t = 0) : ∀ k, k ≤ n → maxN f k = 0 := by
  intro k
  induction k with
  | zero => intro _; exact h 0 h0
  | succ k ih =>
    intro hk
    show max (maxN f k) (f k) = 0
    rw [ih (by omega), h k (by omega)]; rfl
/-- where each obligation is whole, allot refuses what is asked -/
theorem FineC.ends_again (h : FineC S) {day V : Int} (hV : Am V) (h1 : S.all day ≤ V) (he : S.ends day S.n = true) : againE V (S.ear day) S.n (S.wei day) S.n = 1 := by
  have hb := h.all_bd day
  have hz : ∀ t, t < S.n → S.wei day t = 0 := fun t ht => by unfold Ct.wei; rw [if_pos (ends_all _ he t ht)]
  have hm := max_zero h.n0 hz _ (Nat.le_refl _)
  have ha : Am (sumN (S.ear day) S.n) := by show Am (S.all day); unfold Am; omega
  have hd : Am (V - sumN (S.ear day) S.n) := by show Am (V - S.all day); unfold Am at *; omega
  have hl : leaveE V (S.ear day) S.n = 0 := by
    unfold leaveE
    rw [if_pos (by rw [tellE_in ha]), tellE_in hd]
  have ho : outE (leaveV V (S.ear day) S.n) (S.wei day) S.n = 1 := by
    unfold outE
    rw [if_neg (by have := h.n1; omega), if_pos (.inr (.inr hm))]
  unfold againE
  rw [if_neg (by simp), if_neg (by rw [hl]; simp), if_pos (by rw [ho]; decide), ho]
/-- what Onward answers, told by what is asked of allot alone -/
theorem FineC.onw_alone (h : FineC S) {day more : Int} (q1 : S.may day more = 0) (q2 : ¬ S.N + more < S.all day) : S.onwE day more = againE (S.N + more) (S.ear day) S.n (S.wei day) S.n := by
  have ha := (Ct.may0 q1).2.2.2.2
  unfold Ct.onwE
  rw [if_neg (by simpa using q1), if_neg q2]
  split
  · rename_i he
    rw [h.ends_again ha (by omega) he]
  · rfl
set_option maxRecDepth 100000 in
set_option maxHeartbeats 8000000 in
theorem cxonward_any (h : PgX w O c S P Q ab tb ac tc) (day more : Int) (hm : Am more) : Calls Tryz.prog 28 #[.pointer (some ⟨c, 0, none⟩), .int .i64 day, .int .i64 more] w (PcR Pgc w O c (S.onwS day more) (S.onwE day more)) := by
  have HH := Lib.hid h
  have HNext := Lib.hid (cxnext_any h day more hm)
  unfold NextR at HNext
  have HAll := Lib.hid (fun (W : World) (q : Below w.heap.size w W) => cxall_any (h.up q) day)
  have HEar := Lib.hid (fun (W : World) (q : Below w.heap.size w W) => cxearned_any (h.up q) day)
  have HOpen := Lib.hid (fun (W : World) (q : Below w.heap.size w W) => cxopen_any (h.up q) day)
  unfold NewI at HEar HOpen
  have hn := h.fine.n1
  have HAg := Lib.hid (fun (W : World) (V : Int) (p1 p2 : Nat) (hV : Am V) (h1 : Ints W p1 S.n (S.ear day)) (h2 : Ints W p2 S.n (S.wei day)) => again_any V (S.ear day) (S.wei day) (some ⟨p1, 0, none⟩) (some ⟨p2, 0, none⟩) S.n S.n S.n S.n W (h.fine.ear_am day) (h.fine.wei_am day) hV (by omega) (ints_arg0 h1) (ints_arg0 h2))
  unfold AgainPost Listed at HAg
  have HNo := Lib.hid (fun (w' : World) (X : Int) (h1 : S.onwE day more = X) (h2 : X ≠ 0) (q : Below w.heap.size w w') => PcR.no (X := X) h (S' := S.onwS day more) (by unfold Ct.onwS; rw [if_neg (by rw [h1]; exact h2)]) q)
  have HMay0 := Lib.hid (fun (q : S.may day more = 0) => (Ct.may0 q).2.2.2)
  have HMn : Hid (S.may day more ≠ 0 → S.onwE day more = S.may day more) := Lib.hid fun q => by unfold Ct.onwE; rw [if_pos q]
  have HLow : Hid (S.may day more = 0 → S.N + more < S.all day → S.onwE day more = 1) := Lib.hid fun q1 q2 => by unfold Ct.onwE; rw [if_neg (by simpa using q1), if_pos q2]
  have HHigh := Lib.hid (fun (q1 : S.may day more = 0) (q2 : ¬ S.N + more < S.all day) => h.fine.onw_alone q1 q2)
  have HChg : Hid (∀ (W : World) (p : Nat) (q : Below w.heap.size w W), S.onwE day more = 0 → w.heap.size ≤ p → Ints W p S.n (S.agn day more) → Calls Tryz.prog 56 #[.pointer (some ⟨c, 0, none⟩), .int .i64 day, .int .i64 (S.N + more), .slice (some ⟨p, 0, none⟩) S.n S.n, .func (.func 57) #[] #[]] W fun e w' => e = .returned (.tuple #[]) ∧ PcR Pgc w O c (S.onwS day more) 0 (.returned (.int .i64 0)) w') := Lib.hid fun W p q q0 hp hI => by
    have hS : S.onwS day more = ⟨S.N + more, day, S.ch + 1, S.T.mapIdx fun t x => ⟨x.d, x.E, onwS x.d x.E x.L day (S.agn day more t)⟩⟩ := by unfold Ct.onwS; rw [if_pos q0]
    have hF := h.fine.onw1 (day := day) (more := more)
    rw [hS] at hF ⊢
    have hW := h.up q
    have hlt : p < W.heap.size := by
      have := hI 0 h.fine.n0
      exact World.block_lt_of_cell? (a := ⟨p, 0, none⟩) _ this.1
    refine (cxchange_any (g := fun t x => ⟨x.d, x.E, onwS x.d x.E x.L day (S.agn day more t)⟩) 57 (fun U W => by simp [callFunc, go_sem, Tryz.func57, Tryz.f57]) hW day (S.N + more) (Ct.may0 (Ct.onw0 q0).1).2.2.2.1 hI hlt (fun z => by have := h.pg.lt _ z; omega) hF (fun _ _ => rfl) fun W' R t ht hT => ?_).mono fun e w' z => ⟨z.1, (z.2.from q h.pg.lt).pcr rfl⟩
    obtain ⟨_, _, _, _, _, hx⟩ := hT
    exact (tonward_any hx day _ (Ct.agn_bd q0 ht).2.1).mono fun e w' z => ⟨⟨_, z.1⟩, z.2⟩
  have HAn : Hid (S.agn day more = againV (S.N + more) (S.ear day) S.n (S.wei day) S.n) := Lib.hid rfl
  obtain ⟨M, hM⟩ : ∃ M, M = S.may day more := ⟨_, rfl⟩
  obtain ⟨A, hA⟩ : ∃ A, A = S.all day := ⟨_, rfl⟩
  obtain ⟨X, hX⟩ : ∃ X, X = S.onwE day more := ⟨_, rfl⟩
  obtain ⟨S', hS'⟩ : ∃ S', S' = S.onwS day more := ⟨_, rfl⟩
  obtain ⟨U, hU⟩ : ∃ U, U = S.N + more := ⟨_, rfl⟩
  rw [← hX, ← hS']
  rw [← hS', ← hX] at HNo
  rw [← hM] at HNext HMay0 HMn HLow HHigh
  rw [← hX] at HMn HLow HHigh HChg
  rw [← hA] at HAll HLow HHigh
  rw [← hU] at HNext HMay0 HLow HHigh HChg HAn
  rw [← hS'] at HChg
  generalize S.agn day more = ag at HChg HAn
  generalize S.n = n at hn HEar HOpen HAg HHigh HChg HAn
  generalize S.ear day = ea at HEar HAg HHigh HAn
  generalize S.wei day = we at HOpen HAg HHigh HAn
  clear h hm hM hA hX hS' hU
  go_enter Tryz.func28, Tryz.ntmps28
  go_wp2_with fail
  refine HNext.out.mono ?_
  rintro e w1 ⟨V, rfl, hV, hb⟩
  have HB1 := Lib.hid hb
  have HVe := Lib.hid hV
  clear hb hV
  by_cases q1 : M = 0
  rotate_left
  · have q1' : (M != 0) = true := by simpa using q1
    have HX := Lib.hid (HMn.out q1)
    have HQ1 := Lib.hid q1
    clear q1
    go_wp2_with fail
    go_ret
    have z := HNo.out w1 X rfl (by rw [HX.out]; exact HQ1.out) HB1.out
    rw [← HX.out]; exact z
  have q1' : (M != 0) = false := by simpa using q1
  have HVu := Lib.hid (HVe.out q1)
  have HVa : Hid (Am V) := Lib.hid (by rw [HVu.out]; exact (HMay0.out q1).2)
  have HLow1 := Lib.hid (HLow.out q1)
  have HHigh1 := Lib.hid (HHigh.out q1)
  have HC := Lib.hid (HAll.out _ HB1.out)
  rw [← HVu.out] at HLow1 HHigh1 HChg HAn
  clear q1
  go_wp2_with fail
  refine HC.out.mono ?_
  rintro e w2 ⟨rfl, hb⟩
  have HB2 := Lib.hid (up2 HB1.out hb)
  clear hb
  by_cases q2 : V < A
  · have HX := Lib.hid (HLow1.out q2)
    go_wp2_with fail
    go_ret
    have z := HNo.out w2 X rfl (by rw [HX.out]; decide) HB2.out
    rw [HX.out] at z ⊢; exact z
  have HX := Lib.hid (HHigh1.out (by omega))
  have HC2 := Lib.hid (HEar.out _ HB2.out)
  go_wp2_with fail
  refine HC2.out.mono ?_
  rintro e w3 ⟨p1, rfl, hb, hp1, hI1⟩
  have HB3 := Lib.hid (up2 HB2.out hb)
  have HI1 := Lib.hid hI1
  have HC3 := Lib.hid (HOpen.out _ HB3.out)
  clear hb hp1 hI1
  go_wp2_with fail
  refine HC3.out.mono ?_
  rintro e w4 ⟨p2, rfl, hb, hp2, hI2⟩
  have HB4 := Lib.hid (up2 HB3.out hb)
  have HC4 := Lib.hid (HAg.out w4 V p1 p2 HVa.out (ints_up HI1.out hb) hI2)
  clear hb hp2 hI2
  obtain ⟨ae, hae⟩ : ∃ ae, ae = againE V ea n we n := ⟨_, rfl⟩
  rw [← hae] at HC4 HX
  rw [← HAn.out] at HC4
  clear hae
  go_wp2_with fail
  refine HC4.out.mono ?_
  rintro e w5 ⟨⟨hb, ⟨q, rfl⟩ | ⟨q, p, rfl, hp, hI⟩⟩, _⟩
  · have HB5 := Lib.hid (up2 HB4.out hb)
    have q' : (ae != 0) = true := by simpa using q
    have HQ := Lib.hid q
    clear hb q
    go_wp2_with fail
    go_ret
    have z := HNo.out w5 X rfl (by rw [HX.out]; exact HQ.out) HB5.out
    rw [← HX.out]; exact z
  · have HB5 := Lib.hid (up2 HB4.out hb)
    have q' : (ae != 0) = false := by simpa using q
    have hX0 : X = 0 := by rw [HX.out]; exact q
    have HX0 := Lib.hid hX0
    have HC5 := Lib.hid (HChg.out w5 p HB5.out hX0 (Nat.le_trans HB4.out.size hp) hI)
    clear hb q hp hI hX0
    go_wp2_with fail
    refine HC5.out.mono ?_
    rintro e w6 ⟨rfl, hz⟩
    have HZ := Lib.hid hz
    clear hz
    go_wp2_with fail
    go_ret
    rw [HX0.out]; exact HZ.out
set_option maxRecDepth 100000 in
set_option maxHeartbeats 8000000 in
theorem cxafresh_any (h : PgX w O c S P Q ab tb ac tc) (day more : Int) (hm : Am more) : Calls Tryz.prog 30 #[.pointer (some ⟨c, 0, none⟩), .int .i64 day, .int .i64 more] w (PcR Pgc w O c (S.afrS day more) (S.afrE day more)) := by
  have HNext := Lib.hid (cxnext_any h day more hm)
  unfold NextR at HNext
  have hn := h.fine.n1
  have HC0 := Lib.hid h.c0
  have HAl := Lib.hid (fun (W : World) (V : Int) (hV : Am V) (q : Below w.heap.size w W) => all_any V S.alo (some ⟨ab, 0, none⟩) S.n ac W h.fine.alo_am hV (ints_arg0 (ints_up h.pg.alo q)))
  unfold AllPost Listed at HAl
  have HNo := Lib.hid (fun (w' : World) (X : Int) (h1 : S.afrE day more = X) (h2 : X ≠ 0) (q : Below w.heap.size w w') => PcR.no (X := X) h (S' := S.afrS day more) (by unfold Ct.afrS; rw [if_neg (by rw [h1]; exact h2)]) q)
  have HMay0 := Lib.hid (fun (q : S.may day more = 0) => (Ct.may0 q).2.2.2)
  have HMn : Hid (S.may day more ≠ 0 → S.afrE day more = S.may day more) := Lib.hid fun q => by unfold Ct.afrE; rw [if_pos q]
  have HHigh : Hid (S.may day more = 0 → S.afrE day more = allE (S.N + more) S.alo S.n) := Lib.hid fun q1 => by unfold Ct.afrE; rw [if_neg (by simpa using q1)]
  have HChg : Hid (∀ (W : World) (p : Nat) (q : Below w.heap.size w W), S.afrE day more = 0 → w.heap.size ≤ p → Ints W p S.n (outV (S.N + more) S.alo S.n) → Calls Tryz.prog 56 #[.pointer (some ⟨c, 0, none⟩), .int .i64 day, .int .i64 (S.N + more), .slice (some ⟨p, 0, none⟩) S.n S.n, .func (.func 61) #[] #[]] W fun e w' => e = .returned (.tuple #[]) ∧ PcR Pgc w O c (S.afrS day more) 0 (.returned (.int .i64 0)) w') := Lib.hid fun W p q q0 hp hI => by
    have hS : S.afrS day more = ⟨S.N + more, day, S.ch + 1, S.T.mapIdx fun t x => ⟨x.d, x.E, afrS x.L day (outV (S.N + more) S.alo S.n t)⟩⟩ := by unfold Ct.afrS; rw [if_pos q0]
    have hF := h.fine.afr1 (day := day) (more := more)
    rw [hS] at hF ⊢
    have hW := h.up q
    have hlt : p < W.heap.size := by
      have := hI 0 h.fine.n0
      exact World.block_lt_of_cell? (a := ⟨p, 0, none⟩) _ this.1
    refine (cxchange_any (g := fun t x => ⟨x.d, x.E, afrS x.L day (outV (S.N + more) S.alo S.n t)⟩) 61 (fun U W => by simp [callFunc, go_sem, Tryz.func61, Tryz.f61]) hW day (S.N + more) (Ct.may0 (Ct.afr0 q0).1).2.2.2.1 hI hlt (fun z => by have := h.pg.lt _ z; omega) hF (fun _ _ => rfl) fun W' R t ht hT => ?_).mono fun e w' z => ⟨z.1, (z.2.from q h.pg.lt).pcr rfl⟩
    obtain ⟨_, _, _, _, _, hx⟩ := hT
    exact (tafresh_any hx day _ (h.fine.afr_track q0 ht).2).mono fun e w' z => ⟨⟨_, z.1⟩, z.2⟩
  obtain ⟨M, hM⟩ : ∃ M, M = S.may day more := ⟨_, rfl⟩
  obtain ⟨X, hX⟩ : ∃ X, X = S.afrE day more := ⟨_, rfl⟩
  obtain ⟨S', hS'⟩ : ∃ S', S' = S.afrS day more := ⟨_, rfl⟩
  obtain ⟨U, hU⟩ : ∃ U, U = S.N + more := ⟨_, rfl⟩
  rw [← hX, ← hS']
  rw [← hS', ← hX] at HNo
  rw [← hM] at HNext HMay0 HMn HHigh
  rw [← hX] at HMn HHigh HChg
  rw [← hU] at HNext HMay0 HHigh HChg
  rw [← hS'] at HChg
  generalize S.n = n at hn HAl HHigh HChg HC0
  generalize S.alo = al at HAl HHigh HChg
  clear h hm hM hX hS' hU
  go_enter Tryz.func30, Tryz.ntmps30
  go_wp2_with fail
  refine HNext.out.mono ?_
  rintro e w1 ⟨V, rfl, hV, hb⟩
  have HB1 := Lib.hid hb
  have HVe := Lib.hid hV
  clear hb hV
  by_cases q1 : M = 0
  rotate_left
  · have q1' : (M != 0) = true := by simpa using q1
    have HX := Lib.hid (HMn.out q1)
    have HQ1 := Lib.hid q1
    clear q1
    go_wp2_with fail
    go_ret
    have z := HNo.out w1 X rfl (by rw [HX.out]; exact HQ1.out) HB1.out
    rw [← HX.out]; exact z
  have q1' : (M != 0) = false := by simpa using q1
  have HVu := Lib.hid (HVe.out q1)
  have HVa : Hid (Am V) := Lib.hid (by rw [HVu.out]; exact (HMay0.out q1).2)
  have HX := Lib.hid (HHigh.out q1)
  rw [← HVu.out] at HX HChg
  have HC4 := Lib.hid (HAl.out w1 V HVa.out HB1.out)
  have c0 := kcell HB1.out HC0.out
  obtain ⟨ae, hae⟩ : ∃ ae, ae = allE V al n := ⟨_, rfl⟩
  rw [← hae] at HC4 HX
  obtain ⟨ov, hov⟩ : ∃ ov, ov = outV V al n := ⟨_, rfl⟩
  rw [← hov] at HC4 HChg
  clear q1 hae hov
  go_wp2_with fail
  refine HC4.out.mono ?_
  rintro e w5 ⟨⟨hb, ⟨q, rfl⟩ | ⟨q, p, rfl, hp, hI⟩⟩, _⟩
  · have HB5 := Lib.hid (up2 HB1.out hb)
    have q' : (ae != 0) = true := by simpa using q
    have HQ := Lib.hid q
    clear hb q c0
    go_wp2_with fail
    go_ret
    have z := HNo.out w5 X rfl (by rw [HX.out]; exact HQ.out) HB5.out
    rw [← HX.out]; exact z
  · have HB5 := Lib.hid (up2 HB1.out hb)
    have q' : (ae != 0) = false := by simpa using q
    have hX0 : X = 0 := by rw [HX.out]; exact q
    have HX0 := Lib.hid hX0
    have HC5 := Lib.hid (HChg.out w5 p HB5.out hX0 (Nat.le_trans HB1.out.size hp) hI)
    clear hb q hp hI hX0 c0
    go_wp2_with fail
    refine HC5.out.mono ?_
    rintro e w6 ⟨rfl, hz⟩
    have HZ := Lib.hid hz
    clear hz
    go_wp2_with fail
    go_ret
    rw [HX0.out]; exact HZ.out
end
end Go.Proofs.YtklaonoekmhakaaGreat
