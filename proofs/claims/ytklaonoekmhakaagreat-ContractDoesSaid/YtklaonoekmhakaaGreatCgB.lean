/- The program's contract: in memory, in blocks of a set. -/
import Derived.Test.YtklaonoekmhakaaGreatBc
import Derived.Test.YtklaonoekmhakaaGreatTrE
namespace Go.Proofs.YtklaonoekmhakaaGreat
open Go.RowKit

/-- a contract's tracks, and what they are worth alone: the struct lies in block c, the amounts in ab, the pointers in tb, each track in blocks of Q -/
structure Pg (w : World) (O : Nat → Prop) (c n : Nat) (T : List Trk) (P : Nat → Nat) (Q : Nat → Nat → Prop) (ab tb : Nat) (al : Nat → Int) : Prop where
  len : T.length = n
  alo : Ints w ab n al
  ptr : ∀ t, t < n → w.cell? ⟨tb, t, none⟩ = some (.pointer (some ⟨P t, 0, none⟩))
  trk : ∀ t, t < n → Tk w (Q t) (P t) (T.getD t trk0).d (T.getD t trk0).E (T.getD t trk0).L
  apart : ∀ t u, t < n → u < n → t ≠ u → ∀ g, Q t g → ¬ Q u g
  inQ : ∀ t, t < n → ∀ g, Q t g → O g
  oc : O c
  oa : O ab
  ot : O tb
  fc : ∀ t, t < n → ¬ Q t c
  fa : ∀ t, t < n → ¬ Q t ab
  ft : ∀ t, t < n → ¬ Q t tb
  ca : c ≠ ab
  ct : c ≠ tb
  lt : ∀ g, O g → g < w.heap.size
/-- the program's contract -/
structure PgX (w : World) (O : Nat → Prop) (c : Nat) (S : Ct) (P : Nat → Nat) (Q : Nat → Nat → Prop) (ab tb ac tc : Nat) : Prop where
  has : Has w c 94 #[.slice (some ⟨ab, 0, none⟩) S.n ac, .slice (some ⟨tb, 0, none⟩) S.n tc, .int .i64 S.N, .int .i64 S.la, .int .i64 (S.ch : Int)]
  pg : Pg w O c S.n S.T P Q ab tb S.alo
  fine : FineC S
  lsn : ∀ x ∈ S.T, x.d.ls.length ≤ 1000
def Pgc (w : World) (O : Nat → Prop) (c : Nat) (S : Ct) : Prop := ∃ P Q ab tb ac tc, PgX w O c S P Q ab tb ac tc
/-- blocks of ints stay -/
def IntsStay (w w' : World) : Prop := ∀ g cs, Has w g 3 cs → Has w' g 3 cs
section
variable {w0 w w' w2 : World} {O O' : Nat → Prop} {c n : Nat} {T : List Trk} {P : Nat → Nat} {Q : Nat → Nat → Prop} {ab tb ac tc : Nat} {al : Nat → Int} {S S' : Ct}
theorem TkX.keepN {b p : Nat} {d : Dt} {E : List Tl} {L : List Sp} {la : Option Addr} {lc : Nat} {tv sv : Value} (h : TkX w O b p d E L la lc tv sv) (hk : Kp O' w w') (hi : IntsStay w w') (hn : ∀ g, O g → ¬ O' g) : TkX w' O b p d E L la lc tv sv := by
  have hb : ∀ g, O g → w'.heap[g]? = w.heap[g]? := fun g hg => hk.block g (h.lt g hg) (hn g hg)
  have hl : w'.ownsRow 0 3 1 (.slice la d.ls.length lc) d.ls.length (d.ls.flatMap inC) := by
    refine ⟨h.log.lns.1, ?_⟩
    rcases h.log.lns.2 with q | ⟨g, cap, cur, e, q3, q4, q5⟩
    · exact .inl q
    · exact .inr ⟨g, cap, cur, e, q3, hi g cur q4, q5⟩
  exact ⟨⟨(hb p h.inp).trans h.log.has, hl, own_keep15 h.log.own fun g hg => hb g (h.int g hg), h.log.fine, h.log.nil0⟩, (hb b h.inb).trans h.has, own_keep15 h.own fun g hg => hb g (h.ins g hg), h.fine, h.inb, h.inp, h.int, h.ins, fun g hg => Nat.lt_of_lt_of_le (h.lt g hg) hk.size, h.un⟩
theorem Tk.keepI {b : Nat} {d : Dt} {E : List Tl} {L : List Sp} (h : Tk w O b d E L) (hk : Kp O' w w') (hi : IntsStay w w') (hn : ∀ g, O g → ¬ O' g) : Tk w' O b d E L := by
  obtain ⟨p, la, lc, tv, sv, h⟩ := h; exact ⟨p, la, lc, tv, sv, h.keepN hk hi hn⟩
theorem intsG_kp {b k : Nat} {f : Nat → Int} (h : Ints w b k f) (hb : w'.heap[b]? = w.heap[b]?) : Ints w' b k f := fun t ht =>
  ⟨(World.cell?_of_block (a := ⟨b, t, none⟩) hb).trans (h t ht).1, (World.frozen?_of_block (a := ⟨b, t, none⟩) hb).trans (h t ht).2⟩
theorem Pg.keep (h : Pg w O c n T P Q ab tb al) (hk : Kp O' w w') (hi : IntsStay w w') (hn : ∀ g, O g → ¬ O' g) : Pg w' O c n T P Q ab tb al :=
  ⟨h.len, intsG_kp h.alo (hk.block ab (h.lt _ h.oa) (hn _ h.oa)), fun t ht => (World.cell?_of_block (a := ⟨tb, t, none⟩) (hk.block tb (h.lt _ h.ot) (hn _ h.ot))).trans (h.ptr t ht),
    fun t ht => (h.trk t ht).keepI hk hi fun g hg => hn g (h.inQ t ht g hg), h.apart, h.inQ, h.oc, h.oa, h.ot, h.fc, h.fa, h.ft, h.ca, h.ct, fun g hg => Nat.lt_of_lt_of_le (h.lt g hg) hk.size⟩
theorem Pg.up (h : Pg w O c n T P Q ab tb al) (q : Below w.heap.size w w') : Pg w' O c n T P Q ab tb al :=
  h.keep (O' := fun _ => False) (Kp.of q) (fun _ _ hh => hh.up q) fun _ _ z => z
theorem Pg.mono (h : Pg w O c n T P Q ab tb al) (hs : ∀ g, O g → O' g) (hl : ∀ g, O' g → g < w.heap.size) : Pg w O' c n T P Q ab tb al :=
  ⟨h.len, h.alo, h.ptr, h.trk, h.apart, fun t ht g hg => hs g (h.inQ t ht g hg), hs _ h.oc, hs _ h.oa, hs _ h.ot, h.fc, h.fa, h.ft, h.ca, h.ct, hl⟩
/-- a write into the contract's own block -/
theorem Pg.put (h : Pg w O c n T P Q ab tb al) {cs : Array Value} (hc : Has w c 94 cs) (i : Nat) (v : Value) : Pg (w.setCell ⟨c, i, none⟩ v) O c n T P Q ab tb al := by
  have hk : Kp (fun g => g = c) w (w.setCell ⟨c, i, none⟩ v) := Kp.set w _ _ (O := fun g => g = c) rfl
  have hi : IntsStay w (w.setCell ⟨c, i, none⟩ v) := fun g cs' hh => hk.has hh fun e => hh.ne hc (by decide) e
  exact ⟨h.len, intsG_kp h.alo (hk.block ab (h.lt _ h.oa) fun e => h.ca e.symm), fun t ht => (World.cell?_of_block (a := ⟨tb, t, none⟩) (hk.block tb (h.lt _ h.ot) fun e => h.ct e.symm)).trans (h.ptr t ht),
    fun t ht => (h.trk t ht).keepI hk hi fun g hg e => h.fc t ht (e ▸ hg), h.apart, h.inQ, h.oc, h.oa, h.ot, h.fc, h.fa, h.ft, h.ca, h.ct, fun g hg => Nat.lt_of_lt_of_le (h.lt g hg) hk.size⟩
theorem Nw.widen {g : Nat} (hs : w.heap.size ≤ w'.heap.size) (hl : ∀ g, O g → g < w.heap.size) : Nw O w w' g → g < w'.heap.size := fun z => z.elim (fun z => Nat.lt_of_lt_of_le (hl g z) hs) fun z => z.2
/-- one of the tracks turns -/
theorem Pg.turn (h : Pg w O c n T P Q ab tb al) {t : Nat} (ht : t < n) {y : Trk} (z : TkR w (Q t) (P t) y.d y.E y.L w') :
    Pg w' (Nw O w w') c n (T.set t y) P (fun u => if u = t then Nw (Q t) w w' else Q u) ab tb al := by
  have hk := z.2.1
  have hi : IntsStay w w' := fun g cs hh => z.2.2 g _ cs hh (by decide) (by decide) (by decide) (by decide)
  have hlt : ∀ u, u < n → ∀ g, Q u g → g < w.heap.size := fun u hu g hg => h.lt g (h.inQ u hu g hg)
  refine ⟨by rw [List.length_set]; exact h.len, intsG_kp h.alo (hk.block ab (h.lt _ h.oa) (h.fa t ht)), fun u hu => (World.cell?_of_block (a := ⟨tb, u, none⟩) (hk.block tb (h.lt _ h.ot) (h.ft t ht))).trans (h.ptr u hu), fun u hu => ?_, fun u v hu hv huv g => ?_, fun u hu g => ?_,
    .inl h.oc, .inl h.oa, .inl h.ot, fun u hu => ?_, fun u hu => ?_, fun u hu => ?_, h.ca, h.ct, fun g hg => Nw.widen hk.size h.lt hg⟩
  · have e : (T.set t y).getD u trk0 = if u = t then y else T.getD u trk0 := by
      rw [List.getD_eq_getElem?_getD, List.getElem?_set]
      by_cases q : t = u
      · subst q; rw [if_pos rfl, if_pos (by rw [h.len]; exact ht), if_pos rfl]; rfl
      · rw [if_neg q, if_neg (fun e => q e.symm), List.getD_eq_getElem?_getD]
    rw [e]
    by_cases q : u = t
    · subst q; simp only [if_true]; exact z.1
    · simp only [if_neg q]
      exact (h.trk u hu).keepI hk hi fun g hg hg2 => h.apart u t hu ht q g hg hg2
  · by_cases q1 : u = t
    · subst q1
      have q2 : v ≠ u := fun e => huv e.symm
      simp only [if_true, if_neg q2]
      intro hg hg2
      rcases hg with hg | hg
      · exact h.apart u v hu hv huv g hg hg2
      · have := hlt v hv g hg2; omega
    · simp only [if_neg q1]
      by_cases q2 : v = t
      · subst q2
        simp only [if_true]
        intro hg hg2
        rcases hg2 with hg2 | hg2
        · exact h.apart u v hu hv huv g hg hg2
        · have := hlt u hu g hg; omega
      · simp only [if_neg q2]
        exact h.apart u v hu hv huv g
  · by_cases q : u = t
    · subst q; simp only [if_true]; exact fun hg => hg.imp (h.inQ u hu g) id
    · simp only [if_neg q]; exact fun hg => .inl (h.inQ u hu g hg)
  · by_cases q : u = t
    · subst q; simp only [if_true]; intro hg
      rcases hg with hg | hg
      · exact h.fc u hu hg
      · have := h.lt _ h.oc; omega
    · simp only [if_neg q]; exact h.fc u hu
  · by_cases q : u = t
    · subst q; simp only [if_true]; intro hg
      rcases hg with hg | hg
      · exact h.fa u hu hg
      · have := h.lt _ h.oa; omega
    · simp only [if_neg q]; exact h.fa u hu
  · by_cases q : u = t
    · subst q; simp only [if_true]; intro hg
      rcases hg with hg | hg
      · exact h.ft u hu hg
      · have := h.lt _ h.ot; omega
    · simp only [if_neg q]; exact h.ft u hu
theorem PgX.up (h : PgX w O c S P Q ab tb ac tc) (q : Below w.heap.size w w') : PgX w' O c S P Q ab tb ac tc := ⟨h.has.up q, h.pg.up q, h.fine, h.lsn⟩
theorem PgX.pc (h : PgX w O c S P Q ab tb ac tc) : Pgc w O c S := ⟨P, Q, ab, tb, ac, tc, h⟩
theorem Pgc.up (h : Pgc w O c S) (q : Below w.heap.size w w') : Pgc w' O c S := by obtain ⟨P, Q, ab, tb, ac, tc, h⟩ := h; exact (h.up q).pc
theorem Pgc.lt (h : Pgc w O c S) : ∀ g, O g → g < w.heap.size := by obtain ⟨P, Q, ab, tb, ac, tc, h⟩ := h; exact h.pg.lt
theorem Pgc.fine (h : Pgc w O c S) : FineC S := by obtain ⟨P, Q, ab, tb, ac, tc, h⟩ := h; exact h.fine
theorem Pgc.keep (h : Pgc w O c S) (hk : Kp O' w w') (hi : ∀ g cs, Has w g 3 cs → Has w' g 3 cs) (hn : ∀ g, O g → ¬ O' g) : Pgc w' O c S := by
  obtain ⟨P, Q, ab, tb, ac, tc, h⟩ := h
  exact ⟨P, Q, ab, tb, ac, tc, hk.has h.has (hn _ h.pg.oc), h.pg.keep hk hi hn, h.fine, h.lsn⟩
theorem Pgc.mono (h : Pgc w O c S) (hs : ∀ g, O g → O' g) (hl : ∀ g, O' g → g < w.heap.size) : Pgc w O' c S := by
  obtain ⟨P, Q, ab, tb, ac, tc, h⟩ := h; exact ⟨P, Q, ab, tb, ac, tc, h.has, h.pg.mono hs hl, h.fine, h.lsn⟩
theorem Sto.of (q : Below w.heap.size w w') : Sto w w' := fun _ _ _ hh _ => hh.up q
theorem Sto.trans (h : Sto w w') (k : Sto w' w2) : Sto w w2 := fun g T cs hh hT => k g T cs (h g T cs hh hT) hT
theorem Sto.oth (h : Oth15 w w') : Sto w w' := fun g T cs hh hT => h g T cs hh (by rcases hT with rfl | rfl | rfl | rfl | rfl | rfl | rfl <;> decide) (by rcases hT with rfl | rfl | rfl | rfl | rfl | rfl | rfl <;> decide) (by rcases hT with rfl | rfl | rfl | rfl | rfl | rfl | rfl <;> decide) (by rcases hT with rfl | rfl | rfl | rfl | rfl | rfl | rfl <;> decide)
theorem Sto.put {cs : Array Value} (hc : Has w c 94 cs) (i : Nat) (v : Value) : Sto w (w.setCell ⟨c, i, none⟩ v) := fun g T cs' hh hT =>
  ((grown_set w c i v).block g hh.lt (fun e => hh.ne hc (by rcases hT with rfl | rfl | rfl | rfl | rfl | rfl | rfl <;> decide) (by injection e))).trans hh
theorem PcR.same {X : Int} (h : Pgc w O c S) (q : Below w.heap.size w w') : PcR Pgc w O c S X (.returned (.int .i64 X)) w' :=
  ⟨rfl, (h.up q).mono (fun _ z => .inl z) (fun _ z => Nw.widen q.size h.lt z), Kp.of q, Sto.of q⟩
/-- one of the tracks was told something -/
theorem PgX.told (h : PgX w O c S P Q ab tb ac tc) {t : Nat} (ht : t < S.n) {day m : Int} (z : TkR w (Q t) (P t) (S.tr t).d (telS (S.tr t).d.me (S.tr t).E day m) (S.tr t).L w') :
    Pgc w' (Nw O w w') c (S.telS (t : Int) day m) ∧ Kp O w w' ∧ Sto w w' := by
  have e : S.telS (t : Int) day m = ⟨S.N, S.la, S.ch, S.T.set t ⟨(S.tr t).d, telS (S.tr t).d.me (S.tr t).E day m, (S.tr t).L⟩⟩ := by
    unfold Ct.telS
    rw [if_neg (by omega), Int.toNat_natCast]
  have hF := h.fine.tel (t : Int) day m
  rw [e] at hF ⊢
  have hp := h.pg.turn ht (y := ⟨(S.tr t).d, telS (S.tr t).d.me (S.tr t).E day m, (S.tr t).L⟩) z
  have hn : (Ct.mk S.N S.la S.ch (S.T.set t ⟨(S.tr t).d, telS (S.tr t).d.me (S.tr t).E day m, (S.tr t).L⟩)).n = S.n := by simp [Ct.n]
  have hal : (Ct.mk S.N S.la S.ch (S.T.set t ⟨(S.tr t).d, telS (S.tr t).d.me (S.tr t).E day m, (S.tr t).L⟩)).alo = S.alo := by
    funext u
    unfold Ct.alo Ct.tr
    simp only [List.getD_eq_getElem?_getD, List.getElem?_set]
    by_cases q : t = u
    · subst q
      rw [if_pos rfl, if_pos (show t < S.T.length from ht)]; rfl
    · rw [if_neg q]
  refine ⟨⟨P, fun u => if u = t then Nw (Q t) w w' else Q u, ab, tb, ac, tc, ?_, ?_, hF, fun x hx => ?_⟩, ⟨z.2.1.os, z.2.1.tape, z.2.1.output, z.2.1.size, fun b hb hn => z.2.1.block b hb fun e => hn (h.pg.inQ t ht b e)⟩, Sto.oth z.2.2⟩
  · rw [hn]
    exact z.2.1.has h.has (h.pg.fc t ht)
  · rw [hn, hal]
    exact hp
  · rcases List.mem_or_eq_of_mem_set hx with q | q
    · exact h.lsn x q
    · rw [q]; exact h.lsn (S.tr t) (Ct.mem ht)
/-- one of its tracks, and where its pointer lies -/
theorem PgX.c1 (h : PgX w O c S P Q ab tb ac tc) : w.cell? ⟨c, 1, none⟩ = some (.slice (some ⟨tb, 0, none⟩) S.n tc) := by simpa using h.has.cell 1
theorem PgX.c0 (h : PgX w O c S P Q ab tb ac tc) : w.cell? ⟨c, 0, none⟩ = some (.slice (some ⟨ab, 0, none⟩) S.n ac) := by simpa using h.has.cell 0
theorem PgX.tk (h : PgX w O c S P Q ab tb ac tc) {t : Nat} (ht : t < S.n) : ∃ p la lc tv sv, TkX w (Q t) (P t) p (S.tr t).d (S.tr t).E (S.tr t).L la lc tv sv := h.pg.trk t ht
end
end Go.Proofs.YtklaonoekmhakaaGreat

namespace Go.Proofs.YtklaonoekmhakaaGreat
open Go.RowKit

set_option maxRecDepth 100000 in
set_option maxHeartbeats 400000 in
theorem cxday_any (d : Int) (w : World) : Calls Tryz.prog 65 #[.int .i64 d] w fun e w' => e = .returned (.bool (dayB d)) ∧ w = w' := by
  unfold dayB
  by_cases h1 : 1 ≤ d
  · by_cases h2 : d ≤ 1000000
    · rw [decide_eq_true h1, decide_eq_true h2]
      go_enter Tryz.func65, Tryz.ntmps65
      go_wp2_with fail
      go_ret
      exact ⟨by simp, rfl⟩
    · rw [decide_eq_true h1, decide_eq_false h2]
      go_enter Tryz.func65, Tryz.ntmps65
      go_wp2_with fail
      go_ret
      exact ⟨by simp, rfl⟩
  · rw [decide_eq_false h1]
    go_enter Tryz.func65, Tryz.ntmps65
    go_wp2_with fail
    go_ret
    exact ⟨by simp, rfl⟩
set_option maxRecDepth 100000 in
set_option maxHeartbeats 400000 in
theorem cxhas_any {w : World} {c n : Nat} {qa : Option Addr} {qc : Nat} (i : Int) (h0 : w.cell? ⟨c, 1, none⟩ = some (.slice qa n qc)) :
    Calls Tryz.prog 45 #[.pointer (some ⟨c, 0, none⟩), .int .i64 i] w fun e w' => e = .returned (.bool (decide (0 ≤ i) && decide (i < (n : Int)))) ∧ w = w' := by
  by_cases h1 : 0 ≤ i
  · rw [decide_eq_true h1, Bool.true_and]
    go_enter Tryz.func45, Tryz.ntmps45
    go_wp2_with fail
    go_ret
    exact ⟨rfl, rfl⟩
  · rw [decide_eq_false h1, Bool.false_and]
    go_enter Tryz.func45, Tryz.ntmps45
    go_wp2_with fail
    go_ret
    exact ⟨rfl, rfl⟩
section
variable {w w' : World} {O : Nat → Prop} {c : Nat} {P : Nat → Nat} {Q : Nat → Nat → Prop} {ab tb ac tc : Nat} {S : Ct}
theorem cxprice_any (h : PgX w O c S P Q ab tb ac tc) : Calls Tryz.prog 16 #[.pointer (some ⟨c, 0, none⟩)] w fun e w' => e = .returned (.int .i64 S.N) ∧ Below w.heap.size w w' := by
  have c2 := h.has.cell 2
  simp at c2
  clear h
  go_enter Tryz.func16, Tryz.ntmps16
  go_wp2_with fail
  go_ret
  exact ⟨rfl, Below.refl _ _⟩
theorem cxdays_any (h : PgX w O c S P Q ab tb ac tc) : Calls Tryz.prog 17 #[.pointer (some ⟨c, 0, none⟩)] w fun e w' => e = .returned (.int .i64 S.la) ∧ Below w.heap.size w w' := by
  have c2 := h.has.cell 3
  simp at c2
  clear h
  go_enter Tryz.func17, Tryz.ntmps17
  go_wp2_with fail
  go_ret
  exact ⟨rfl, Below.refl _ _⟩
theorem cxmany_any (h : PgX w O c S P Q ab tb ac tc) : Calls Tryz.prog 18 #[.pointer (some ⟨c, 0, none⟩)] w fun e w' => e = .returned (.int .i64 (S.n : Int)) ∧ Below w.heap.size w w' := by
  have c2 := h.c1
  generalize S.n = n at c2 ⊢
  clear h
  go_enter Tryz.func18, Tryz.ntmps18
  go_wp2_with fail
  go_ret
  exact ⟨rfl, Below.refl _ _⟩
theorem ct_has {k : Int} : S.has k = (decide (0 ≤ k) && decide (k < (S.n : Int))) := rfl
theorem ct_place {k : Int} (q : S.has k = true) : ∃ t : Nat, k = (t : Int) ∧ t < S.n := by
  rw [ct_has] at q
  simp at q
  exact ⟨k.toNat, by omega, by omega⟩
set_option maxRecDepth 100000 in
set_option maxHeartbeats 2000000 in
theorem cxallot_any (h : PgX w O c S P Q ab tb ac tc) (k : Int) : Calls Tryz.prog 21 #[.pointer (some ⟨c, 0, none⟩), .int .i64 k] w fun e w' => e = .returned (.int .i64 (S.altA k)) ∧ Below w.heap.size w w' := by
  have c1 := h.c1
  have HH := Lib.hid (cxhas_any k c1)
  rw [← ct_has] at HH
  cases q : S.has k with
  | false =>
    have e : S.altA k = 0 := by unfold Ct.altA; rw [q]; rfl
    rw [e]
    rw [q] at HH
    clear h c1 q e
    go_enter Tryz.func21, Tryz.ntmps21
    go_wp2_with fail
    refine HH.out.mono ?_
    rintro e w1 ⟨rfl, rfl⟩
    go_wp2_with fail
    go_ret
    exact ⟨rfl, Below.refl _ _⟩
  | true =>
    have e : S.altA k = S.alt k.toNat := by unfold Ct.altA; rw [q]; rfl
    rw [e]
    rw [q] at HH
    obtain ⟨t, rfl, ht⟩ := ct_place q
    rw [Int.toNat_natCast]
    obtain ⟨_, _, _, _, _, hx⟩ := h.tk ht
    have z0 := h.pg.ptr t ht
    have HQ := Lib.hid (tallot_any hx)
    have HQ : Hid (Calls Tryz.prog 46 #[.pointer (some ⟨P t, 0, none⟩)] w fun e w' => e = .returned (.int .i64 (S.alt t)) ∧ Below w.heap.size w w') := HQ
    generalize S.alt t = v at HQ ⊢
    generalize P t = b at HQ z0
    generalize S.n = n at c1 ht
    have i0 : (0 : Int) ≤ (t : Int) := by omega
    have i1 : (t : Int) < (n : Int) := by omega
    clear h q e hx ht
    go_enter Tryz.func21, Tryz.ntmps21
    go_wp2_with fail
    refine HH.out.mono ?_
    rintro e w1 ⟨rfl, rfl⟩
    go_wp2_with fail
    refine HQ.out.mono ?_
    rintro e w1 ⟨rfl, hb⟩
    have HB := Lib.hid hb
    clear hb
    go_wp2_with fail
    go_ret
    exact ⟨rfl, HB.out⟩
set_option maxRecDepth 100000 in
set_option maxHeartbeats 2000000 in
theorem cxear_any (h : PgX w O c S P Q ab tb ac tc) (k day : Int) : Calls Tryz.prog 23 #[.pointer (some ⟨c, 0, none⟩), .int .i64 k, .int .i64 day] w fun e w' => e = .returned (.int .i64 (S.earA k day)) ∧ Below w.heap.size w w' := by
  have c1 := h.c1
  have HH := Lib.hid (cxhas_any k c1)
  rw [← ct_has] at HH
  cases q : S.has k with
  | false =>
    have e : S.earA k day = 0 := by unfold Ct.earA; rw [q]; rfl
    rw [e]
    rw [q] at HH
    clear h c1 q e
    go_enter Tryz.func23, Tryz.ntmps23
    go_wp2_with fail
    refine HH.out.mono ?_
    rintro e w1 ⟨rfl, rfl⟩
    go_wp2_with fail
    go_ret
    exact ⟨rfl, Below.refl _ _⟩
  | true =>
    have e : S.earA k day = S.ear day k.toNat := by unfold Ct.earA; rw [q]; rfl
    rw [e]
    rw [q] at HH
    obtain ⟨t, rfl, ht⟩ := ct_place q
    rw [Int.toNat_natCast]
    obtain ⟨_, _, _, _, _, hx⟩ := h.tk ht
    have z0 := h.pg.ptr t ht
    have HQ := Lib.hid (tearned_any hx day)
    have HQ : Hid (Calls Tryz.prog 48 #[.pointer (some ⟨P t, 0, none⟩), .int .i64 day] w fun e w' => e = .returned (.int .i64 (S.ear day t)) ∧ Below w.heap.size w w') := HQ
    generalize S.ear day t = v at HQ ⊢
    generalize P t = b at HQ z0
    generalize S.n = n at c1 ht
    have i0 : (0 : Int) ≤ (t : Int) := by omega
    have i1 : (t : Int) < (n : Int) := by omega
    clear h q e hx ht
    go_enter Tryz.func23, Tryz.ntmps23
    go_wp2_with fail
    refine HH.out.mono ?_
    rintro e w1 ⟨rfl, rfl⟩
    go_wp2_with fail
    refine HQ.out.mono ?_
    rintro e w1 ⟨rfl, hb⟩
    have HB := Lib.hid hb
    clear hb
    go_wp2_with fail
    go_ret
    exact ⟨rfl, HB.out⟩
set_option maxRecDepth 100000 in
set_option maxHeartbeats 2000000 in
theorem cxtell_any (h : PgX w O c S P Q ab tb ac tc) (k day m : Int) (hm : Am m) : Calls Tryz.prog 31 #[.pointer (some ⟨c, 0, none⟩), .int .i64 k, .int .i64 day, .int .i64 m] w (PcR Pgc w O c (S.telS k day m) (S.telE k day m)) := by
  unfold PcR
  have c1 := h.c1
  have HH := Lib.hid (cxhas_any k c1)
  rw [← ct_has] at HH
  cases q : S.has k with
  | false =>
    have q2 : k < 0 ∨ (S.n : Int) ≤ k := by rw [ct_has] at q; simp at q; omega
    have e : S.telE k day m = 5 := by unfold Ct.telE; rw [if_pos q2]
    have e2 : S.telS k day m = S := by unfold Ct.telS; rw [if_pos q2]
    rw [e, e2]
    rw [q] at HH
    have HS := Lib.hid (PcR.same (X := 5) h.pc (Below.refl w.heap.size w))
    unfold PcR at HS
    clear h c1 q e e2 q2
    go_enter Tryz.func31, Tryz.ntmps31
    go_wp2_with fail
    refine HH.out.mono ?_
    rintro e w1 ⟨rfl, rfl⟩
    go_wp2_with fail
    go_ret
    exact ⟨rfl, HS.out.2⟩
  | true =>
    rw [q] at HH
    obtain ⟨t, rfl, ht⟩ := ct_place q
    have hno : ¬ ((t : Int) < 0 ∨ (S.n : Int) ≤ (t : Int)) := by omega
    have e1 : S.telE (t : Int) day m = telE (S.tr t).d.me (S.tr t).E day m := by unfold Ct.telE; rw [if_neg hno, Int.toNat_natCast]
    have HTo := Lib.hid (fun (w' : World) (z : TkR w (Q t) (P t) (S.tr t).d (telS (S.tr t).d.me (S.tr t).E day m) (S.tr t).L w') => h.told ht z)
    obtain ⟨p, _, _, _, _, hx⟩ := h.tk ht
    have z0 := h.pg.ptr t ht
    have r0 := hx.has.cell 0
    simp at r0
    have HQ := Lib.hid (ttell_any hx day m hm)
    unfold ChgR at HQ
    rw [← e1] at HQ
    have HQ : Hid (Calls Tryz.prog 62 #[.pointer (some ⟨p, 0, none⟩), .int .i64 day, .int .i64 m] w fun e w' => e = .returned (.int .i64 (S.telE (t : Int) day m)) ∧ Pgc w' (Nw O w w') c (S.telS (t : Int) day m) ∧ Kp O w w' ∧ Sto w w') := Lib.hid (HQ.out.mono fun e w' z => ⟨z.1, HTo.out _ z.2⟩)
    generalize S.telE (t : Int) day m = X at HQ ⊢
    generalize S.telS (t : Int) day m = S' at HQ ⊢
    generalize P t = b at r0 z0
    generalize S.n = n at c1 ht
    have i0 : (0 : Int) ≤ (t : Int) := by omega
    have i1 : (t : Int) < (n : Int) := by omega
    clear h q hx ht e1 hno HTo
    go_enter Tryz.func31, Tryz.ntmps31
    go_wp2_with fail
    refine HH.out.mono ?_
    rintro e w1 ⟨rfl, rfl⟩
    go_wp2_with fail
    refine HQ.out.mono ?_
    rintro e w1 ⟨rfl, hz⟩
    have HR := Lib.hid hz
    clear hz
    go_wp2_with fail
    go_ret
    exact ⟨rfl, HR.out⟩
set_option maxRecDepth 100000 in
set_option maxHeartbeats 2000000 in
theorem cxduty_any (h : PgX w O c S P Q ab tb ac tc) (k : Int) : Calls Tryz.prog 25 #[.pointer (some ⟨c, 0, none⟩), .int .i64 k] w (DutR w S k) := by
  unfold DutR
  have c1 := h.c1
  have hclt := h.has.lt
  have HY := Lib.hid (Has.fresh w 51 #[.slice none 0 0, .int .i64 0, .int .i64 0, .int .i64 0, .int .i64 0, .int .i64 0])
  have HH := Lib.hid (fun (W : World) (q : Below w.heap.size w W) => cxhas_any k (kcell q c1))
  rw [← ct_has] at HH
  have HC1 := Lib.hid c1
  cases q : S.has k with
  | false =>
    rw [q] at HH
    clear h q c1
    go_enter Tryz.func25, Tryz.ntmps25
    go_wp2_with fail
    refine (HH.out _ (boxed _ _)).mono ?_
    rintro e w1 ⟨rfl, rfl⟩
    obtain ⟨W1, hW1⟩ : ∃ W1, W1 = w.alloc (.cells #[.slice none 0 0, .int .i64 0, .int .i64 0, .int .i64 0, .int .i64 0, .int .i64 0] 51) := ⟨_, rfl⟩
    rw [← hW1] at HY
    have HB1 : Hid (Below w.heap.size w W1) := Lib.hid (by rw [hW1]; exact boxed _ _)
    have HY3 := HY
    have yf0 := HY.out.free 0
    have yf1 := HY.out.free 1
    have yf2 := HY.out.free 2
    have yf3 := HY.out.free 3
    have yf4 := HY.out.free 4
    have yf5 := HY.out.free 5
    have y0 := HY.out.cell 0
    have y1 := HY.out.cell 1
    have y2 := HY.out.cell 2
    have y3 := HY.out.cell 3
    have y4 := HY.out.cell 4
    have y5 := HY.out.cell 5
    simp at y0 y1 y2 y3 y4 y5
    rw [← hW1]
    clear hW1
    go_wp2_with fail
    obtain ⟨Wf, hWf⟩ : ∃ Wf, Wf = put6 W1 w.heap.size (.slice none 0 0) (.int .i64 0) (.int .i64 0) (.int .i64 0) (.int .i64 0) (.int .i64 0) := ⟨_, rfl⟩
    have g2 : W1.grownBy Wf (some w.heap.size) := by rw [hWf]; exact put6_grown _ _ _ _ _ _ _ _
    have hf : Has Wf w.heap.size 51 #[.slice none 0 0, .int .i64 0, .int .i64 0, .int .i64 0, .int .i64 0, .int .i64 0] := by rw [hWf]; exact put6_has HY3.out _ _ _ _ _ _
    have r0 := hf.cell 0
    have r1 := hf.cell 1
    have r2 := hf.cell 2
    have r3 := hf.cell 3
    have r4 := hf.cell 4
    have r5 := hf.cell 5
    have hbf := HB1.out.grown g2 HB1.out.size (fun j hj => by injection hj with hj; omega)
    unfold put6 at hWf
    rw [← hWf]
    simp at r0 r1 r2 r3 r4 r5
    exact bodyPost_ret (v := .tuple #[.agg #[.slice none 0 0, .int .i64 0, .int .i64 0, .int .i64 0, .int .i64 0, .int .i64 0], .bool false]) (by simp [results, go_sem, r0, r1, r2, r3, r4, r5]) rfl ⟨hbf, .inl ⟨trivial, rfl⟩⟩
  | true =>
    rw [q] at HH
    obtain ⟨t, rfl, ht⟩ := ct_place q
    rw [Int.toNat_natCast]
    obtain ⟨p, la, lc, _, _, hx⟩ := h.tk ht
    have z0 := h.pg.ptr t ht
    have r0 := hx.has.cell 0
    simp at r0
    have hls : (S.tr t).d.ls.length ≤ 17592186044416 := Nat.le_trans (h.lsn _ (Ct.mem ht)) (by omega)
    have HQ := Lib.hid (fun (W : World) (q : Below w.heap.size w W) => duty_any (hx.log.up q) hls)
    unfold CopR14 at HQ
    have hz1 := kcell (boxed w (.cells #[.slice none 0 0, .int .i64 0, .int .i64 0, .int .i64 0, .int .i64 0, .int .i64 0] 51)) z0
    have hz2 := kcell (boxed w (.cells #[.slice none 0 0, .int .i64 0, .int .i64 0, .int .i64 0, .int .i64 0, .int .i64 0] 51)) r0
    have hz3 := kcell (boxed w (.cells #[.slice none 0 0, .int .i64 0, .int .i64 0, .int .i64 0, .int .i64 0, .int .i64 0] 51)) c1
    generalize P t = b at z0 r0 hz1 hz2
    generalize S.n = n at c1 ht HC1 hz3
    obtain ⟨D, hD⟩ : ∃ D, D = (S.tr t).d := ⟨_, rfl⟩
    rw [← hD] at HQ ⊢
    unfold Dt.val at HQ ⊢
    generalize hm : D.ls.length = m at HQ ⊢
    obtain ⟨al, hal⟩ : ∃ z, z = D.al := ⟨_, rfl⟩
    obtain ⟨un, hun⟩ : ∃ z, z = D.un := ⟨_, rfl⟩
    obtain ⟨me, hme⟩ : ∃ z, z = D.me := ⟨_, rfl⟩
    obtain ⟨fi, hfi⟩ : ∃ z, z = D.fi := ⟨_, rfl⟩
    obtain ⟨la2, hla⟩ : ∃ z, z = D.la := ⟨_, rfl⟩
    rw [← hal, ← hun, ← hme, ← hfi, ← hla] at HQ ⊢
    have HMm := Lib.hid hm
    have i0 : (0 : Int) ≤ (t : Int) := by omega
    have i1 : (t : Int) < (n : Int) := by omega
    clear h q hx ht hls hD hal hun hme hfi hla hm c1 z0 r0
    go_enter Tryz.func25, Tryz.ntmps25
    go_wp2_with fail
    refine (HH.out _ (boxed _ _)).mono ?_
    rintro e w1 ⟨rfl, rfl⟩
    obtain ⟨W1, hW1⟩ : ∃ W1, W1 = w.alloc (.cells #[.slice none 0 0, .int .i64 0, .int .i64 0, .int .i64 0, .int .i64 0, .int .i64 0] 51) := ⟨_, rfl⟩
    rw [← hW1] at HY hz1 hz2 hz3
    have HB1 : Hid (Below w.heap.size w W1) := Lib.hid (by rw [hW1]; exact boxed _ _)
    rw [← hW1]
    clear hW1
    go_wp2_with fail
    refine (HQ.out _ HB1.out).mono ?_
    rintro e w3 ⟨a', c', rfl, hown, hb⟩
    have hy := HY.out.up hb
    have yf0 := hy.free 0
    have yf1 := hy.free 1
    have yf2 := hy.free 2
    have yf3 := hy.free 3
    have yf4 := hy.free 4
    have yf5 := hy.free 5
    have y0 := hy.cell 0
    have y1 := hy.cell 1
    have y2 := hy.cell 2
    have y3 := hy.cell 3
    have y4 := hy.cell 4
    have y5 := hy.cell 5
    have HY3 := Lib.hid hy
    have HO := Lib.hid hown
    have HB := Lib.hid (up2 HB1.out hb)
    clear hy hown hb hz1 hz2 hz3
    simp at y0 y1 y2 y3 y4 y5
    go_wp2_with fail
    obtain ⟨Wf, hWf⟩ : ∃ Wf, Wf = put6 w3 w.heap.size (.slice a' m c') (.int .i64 al) (.int .i64 un) (.int .i64 me) (.int .i64 fi) (.int .i64 la2) := ⟨_, rfl⟩
    have g2 : w3.grownBy Wf (some w.heap.size) := by rw [hWf]; exact put6_grown _ _ _ _ _ _ _ _
    have hf : Has Wf w.heap.size 51 #[.slice a' m c', .int .i64 al, .int .i64 un, .int .i64 me, .int .i64 fi, .int .i64 la2] := by rw [hWf]; exact put6_has HY3.out _ _ _ _ _ _
    have hof := own_beside HO.out HY3.out (by decide) g2
    have r0 := hf.cell 0
    have r1 := hf.cell 1
    have r2 := hf.cell 2
    have r3 := hf.cell 3
    have r4 := hf.cell 4
    have r5 := hf.cell 5
    have hbf := HB.out.grown g2 HB.out.size (fun j hj => by injection hj with hj; omega)
    unfold put6 at hWf
    rw [← hWf]
    simp at r0 r1 r2 r3 r4 r5
    exact bodyPost_ret (v := .tuple #[.agg #[.slice a' m c', .int .i64 al, .int .i64 un, .int .i64 me, .int .i64 fi, .int .i64 la2], .bool true]) (by simp [results, go_sem, r0, r1, r2, r3, r4, r5]) rfl ⟨hbf, .inr ⟨trivial, a', c', rfl, (own_rws in_len (by rw [← HMm.out] at hof; exact hof) rfl).1⟩⟩
end
end Go.Proofs.YtklaonoekmhakaaGreat
