/- A contract, plainly: its price, its last change, its tracks; what follows of changes. -/
import Derived.Test.YtklaonoekmhakaaGreatAlMath
import Derived.Test.YtklaonoekmhakaaGreatTrMath
import Derived.Test.YtklaonoekmhakaaGreatD
namespace Go.Proofs.YtklaonoekmhakaaGreat
open Go.RowKit

/-- a track, plainly -/
structure Trk where
  d : Dt
  E : List Tl
  L : List Sp
structure Ct where
  N : Int
  la : Int
  ch : Nat
  T : List Trk
def trk0 : Trk := ⟨⟨[], 0, 0, 0, 0, 0⟩, [], []⟩
def Ct.n (S : Ct) : Nat := S.T.length
def Ct.tr (S : Ct) (t : Nat) : Trk := S.T.getD t trk0
def Ct.alo (S : Ct) (t : Nat) : Int := (S.tr t).d.al
def Ct.ear (S : Ct) (day : Int) (t : Nat) : Int := earV (S.tr t).d (S.tr t).E (S.tr t).L day
def Ct.alt (S : Ct) (t : Nat) : Int := altV (S.tr t).L
def Ct.whoB (S : Ct) (day : Int) (t : Nat) : Bool := thrV (S.tr t).d (S.tr t).E day == thrW (S.tr t).d
def Ct.wei (S : Ct) (day : Int) (t : Nat) : Int := if S.whoB day t = true then 0 else S.alo t
def Ct.all (S : Ct) (day : Int) : Int := sumN (S.ear day) S.n
/-- is each obligation whole? -/
def Ct.ends (S : Ct) (day : Int) : Nat → Bool
  | 0 => true
  | t + 1 => S.ends day t && S.whoB day t
def Ct.may (S : Ct) (day more : Int) : Int := if day < 1 ∨ 1000000 < day then 1 else if day < S.la then 11 else if 40 ≤ S.ch then 4 else tellE (S.N + more)
def Ct.onwE (S : Ct) (day more : Int) : Int :=
  if S.may day more ≠ 0 then S.may day more else if S.N + more < S.all day then 1 else if S.ends day S.n = true then 1 else againE (S.N + more) (S.ear day) S.n (S.wei day) S.n
def Ct.agn (S : Ct) (day more : Int) : Nat → Int := againV (S.N + more) (S.ear day) S.n (S.wei day) S.n
def Ct.onwS (S : Ct) (day more : Int) : Ct :=
  if S.onwE day more = 0 then ⟨S.N + more, day, S.ch + 1, S.T.mapIdx fun t x => ⟨x.d, x.E, Proofs.YtklaonoekmhakaaGreat.onwS x.d x.E x.L day (S.agn day more t)⟩⟩ else S
def Ct.afrE (S : Ct) (day more : Int) : Int := if S.may day more ≠ 0 then S.may day more else allE (S.N + more) S.alo S.n
def Ct.afrS (S : Ct) (day more : Int) : Ct :=
  if S.afrE day more = 0 then ⟨S.N + more, day, S.ch + 1, S.T.mapIdx fun t x => ⟨x.d, x.E, Proofs.YtklaonoekmhakaaGreat.afrS x.L day (outV (S.N + more) S.alo S.n t)⟩⟩ else S
def Ct.telE (S : Ct) (at' day n : Int) : Int := if at' < 0 ∨ (S.n : Int) ≤ at' then 5 else Proofs.YtklaonoekmhakaaGreat.telE (S.tr at'.toNat).d.me (S.tr at'.toNat).E day n
def Ct.telS (S : Ct) (at' day n : Int) : Ct :=
  if at' < 0 ∨ (S.n : Int) ≤ at' then S else ⟨S.N, S.la, S.ch, S.T.set at'.toNat ⟨(S.tr at'.toNat).d, Proofs.YtklaonoekmhakaaGreat.telS (S.tr at'.toNat).d.me (S.tr at'.toNat).E day n, (S.tr at'.toNat).L⟩⟩

/-- a track of a contract with so many changes, its last one at a day -/
structure TrkOk (la : Int) (ch : Nat) (x : Trk) : Prop where
  t : FineT x.d x.E
  s : FineS x.L
  len : x.L.length = ch + 1
  last : (lastS x.L).fr ≤ la
  un : x.d.un ≤ 9223372036854775807
  al0 : 0 ≤ x.d.al
  al1 : x.d.al ≤ 9223372036854775807
structure FineC (S : Ct) : Prop where
  n0 : 0 < S.n
  n1 : S.n ≤ 64
  N0 : 0 ≤ S.N
  N1 : S.N ≤ 9223372036854775807
  la0 : 1 ≤ S.la
  la1 : S.la ≤ 1000000
  ch : S.ch ≤ 40
  ok : ∀ x ∈ S.T, TrkOk S.la S.ch x
  sum : sumN S.alt S.n = S.N
  /-- the changes are all tracks' -/
  frs : ∃ F : List Int, ∀ x ∈ S.T, x.L.map Sp.fr = F
  tot : ∀ j, j < S.ch + 1 → sumN (fun t => ((S.tr t).L.getD j sp0).ba + ((S.tr t).L.getD j sp0).re) S.n ≤ 9223372036854775807

section
variable {S : Ct}
theorem Ct.mem {t : Nat} (ht : t < S.n) : S.tr t ∈ S.T := by
  unfold Ct.tr Ct.n at *
  rw [List.getD_eq_getElem?_getD, List.getElem?_eq_getElem ht]
  exact List.getElem_mem ht
theorem FineC.trk (h : FineC S) {t : Nat} (ht : t < S.n) : TrkOk S.la S.ch (S.tr t) := h.ok _ (Ct.mem ht)
theorem sumN_mle {f g : Nat → Int} {n : Nat} (h : ∀ t, t < n → f t ≤ g t) : sumN f n ≤ sumN g n := by
  induction n with
  | zero => exact Int.le_refl _
  | succ n ih =>
    have := ih fun t ht => h t (by omega)
    have := h n (by omega)
    unfold sumN; omega
theorem sumN_eq {f g : Nat → Int} {n : Nat} (h : ∀ t, t < n → f t = g t) : sumN f n = sumN g n :=
  Int.le_antisymm (sumN_mle fun t ht => Int.le_of_eq (h t ht)) (sumN_mle fun t ht => Int.le_of_eq (h t ht).symm)
theorem Ct.may0 {day more : Int} (q : S.may day more = 0) : 1 ≤ day ∧ day ≤ 1000000 ∧ S.la ≤ day ∧ S.ch < 40 ∧ Am (S.N + more) := by
  unfold Ct.may at q
  split at q
  · cases q
  · split at q
    · cases q
    · split at q
      · cases q
      · refine ⟨by omega, by omega, by omega, by omega, ?_⟩
        rcases tellE_or (S.N + more) with ⟨_, _, z⟩ | ⟨z, _⟩
        · exact z
        · rw [z] at q; cases q
theorem Ct.mapIdx_tr (f : Nat → Trk → Trk) {T : List Trk} {t : Nat} (ht : t < T.length) : (T.mapIdx f).getD t trk0 = f t (T.getD t trk0) := by
  rw [List.getD_eq_getElem?_getD, List.getD_eq_getElem?_getD, List.getElem?_mapIdx, List.getElem?_eq_getElem ht]
  rfl
/-- which change counts at a day: the same of all tracks -/
def cix (day : Int) : List Int → Nat → Nat → Nat
  | [], _, b => b
  | f :: l, i, b => cix day l (i + 1) (if f ≤ day then i else b)
theorem cix_cnt (day : Int) (L : List Sp) : ∀ (A : List Sp) (b : Nat), cntS day ((A ++ L).getD b sp0) L = (A ++ L).getD (cix day (L.map Sp.fr) A.length b) sp0 := by
  induction L with
  | nil => intro A b; rfl
  | cons y L ih =>
    intro A b
    have e : A ++ y :: L = (A ++ [y]) ++ L := by simp
    have hy : (A ++ y :: L).getD A.length sp0 = y := by
      rw [List.getD_eq_getElem?_getD, List.getElem?_append_right (Nat.le_refl _)]; simp
    simp only [cntS, List.map_cons, cix]
    have z := ih (A ++ [y]) (if y.fr ≤ day then A.length else b)
    rw [← e, List.length_append, List.length_singleton] at z
    rw [← z]
    congr 1
    split
    · exact hy.symm
    · rfl
theorem cix_lt (day : Int) : ∀ (F : List Int) (i b : Nat), b < i + F.length → cix day F i b < i + F.length := by
  intro F
  induction F with
  | nil => intro i b h; exact h
  | cons f l ih =>
    intro i b h
    simp only [cix, List.length_cons] at *
    have := ih (i + 1) (if f ≤ day then i else b) (by split <;> omega)
    omega
theorem cnt_ix {L : List Sp} (h : L ≠ []) (day : Int) : cnt L day = L.getD (cix day (L.map Sp.fr) 0 0) sp0 := by
  have := cix_cnt day L [] 0
  rw [List.nil_append, List.length_nil] at this
  unfold cnt
  rw [← this]
  cases L with
  | nil => exact absurd rfl h
  | cons y l => rfl
theorem FineC.ear_bd (h : FineC S) (day : Int) {t : Nat} (ht : t < S.n) : 0 ≤ S.ear day t ∧ S.ear day t ≤ 9223372036854775807 :=
  earV_in (h.trk ht).t (h.trk ht).s day
/-- what all earned through any day is an amount -/
theorem FineC.all_bd (h : FineC S) (day : Int) : 0 ≤ S.all day ∧ S.all day ≤ 9223372036854775807 := by
  refine ⟨sumN_pos fun t ht => (h.ear_bd day ht).1, ?_⟩
  obtain ⟨F, hF⟩ := h.frs
  have hl : F.length = S.ch + 1 := by
    rw [← hF _ (Ct.mem h.n0), List.length_map]; exact (h.trk h.n0).len
  have hj : cix day F 0 0 < S.ch + 1 := by
    have := cix_lt day F 0 0 (by omega)
    omega
  refine Int.le_trans (sumN_mle fun t ht => ?_) (h.tot _ hj)
  have hx := h.trk ht
  have hc := cnt_ix hx.s.some day
  rw [hF _ (Ct.mem ht)] at hc
  have := (ear_in hx.t (hx.s.ok _ (cnt_mem hx.s.some day)) day).2
  show earS _ _ (cnt _ day) day ≤ _
  rw [hc] at this ⊢
  exact this
theorem sumN_part {f : Nat → Int} {n : Nat} {M : Int} (h : ∀ t, t < n → 0 ≤ f t) (hs : sumN f n ≤ M) {k : Nat} (hk : k ≤ n) : 0 ≤ sumN f k ∧ sumN f k ≤ M :=
  ⟨sumN_pos fun t ht => h t (by omega), Int.le_trans (sumN_mono h hk) hs⟩
theorem FineC.counts (h : FineC S) {day : Int} (hd : S.la ≤ day) {t : Nat} (ht : t < S.n) : (lastS (S.tr t).L).fr ≤ day := Int.le_trans (h.trk ht).last hd
/-- what a change keeps -/
theorem FineC.changed (h : FineC S) {day more : Int} (hm : S.may day more = 0) (h0 : 0 ≤ S.N + more) {g : Nat → Trk → Trk} {v : Nat → Int}
    (hg : ∀ t, t < S.n → ∃ x, g t (S.tr t) = ⟨(S.tr t).d, (S.tr t).E, (S.tr t).L ++ [x]⟩ ∧ SpOk x ∧ x.fr = day ∧ x.ba + x.re = v t) (hs : sumN v S.n = S.N + more) :
    FineC ⟨S.N + more, day, S.ch + 1, S.T.mapIdx g⟩ := by
  obtain ⟨m1, m2, m3, m4, m5⟩ := Ct.may0 hm
  have hn : (Ct.mk (S.N + more) day (S.ch + 1) (S.T.mapIdx g)).n = S.n := by simp [Ct.n]
  have htr : ∀ t, t < S.n → (Ct.mk (S.N + more) day (S.ch + 1) (S.T.mapIdx g)).tr t = g t (S.tr t) := fun t ht => Ct.mapIdx_tr g ht
  have hmem : ∀ y ∈ S.T.mapIdx g, ∃ t, t < S.n ∧ y = g t (S.tr t) := fun y hy => by
    obtain ⟨t, ht⟩ := List.getElem?_of_mem hy
    have hl := (List.getElem?_eq_some_iff.1 ht).1
    rw [List.length_mapIdx] at hl
    refine ⟨t, hl, ?_⟩
    have := Ct.mapIdx_tr g hl
    rw [List.getD_eq_getElem?_getD, ht] at this
    exact this
  refine ⟨by rw [hn]; exact h.n0, by rw [hn]; exact h.n1, h0, m5.2, m1, m2, by show S.ch + 1 ≤ 40; omega, fun y hy => ?_, ?_, ?_, ?_⟩
  · obtain ⟨t, ht, rfl⟩ := hmem y hy
    obtain ⟨x, e, hx, hf, _⟩ := hg t ht
    rw [e]
    have hk := h.trk ht
    exact ⟨hk.t, hk.s.app (by rw [hk.len]; omega) hx (by rw [hf]; exact Int.le_trans hk.last m3), by rw [List.length_append, hk.len]; rfl, by rw [lastS_app, hf]; exact Int.le_refl _, hk.un, hk.al0, hk.al1⟩
  · refine Eq.trans ?_ hs
    rw [hn]
    refine sumN_eq fun t ht => ?_
    obtain ⟨x, e, _, _, hv⟩ := hg t ht
    unfold Ct.alt
    rw [htr t ht, e]
    unfold altV
    rw [lastS_app]; exact hv
  · obtain ⟨F, hF⟩ := h.frs
    refine ⟨F ++ [day], fun y hy => ?_⟩
    obtain ⟨t, ht, rfl⟩ := hmem y hy
    obtain ⟨x, e, _, hf, _⟩ := hg t ht
    rw [e]
    simp only [List.map_append, List.map_cons, List.map_nil]
    rw [hF _ (Ct.mem ht), hf]
  · intro j hj
    rw [hn]
    have hj : j < S.ch + 1 + 1 := hj
    by_cases q : j < S.ch + 1
    · refine Int.le_trans (Int.le_of_eq (sumN_eq fun t ht => ?_)) (h.tot j q)
      obtain ⟨x, e, _⟩ := hg t ht
      have hl := (h.trk ht).len
      rw [htr t ht, e]
      simp only [List.getD_eq_getElem?_getD]
      rw [List.getElem?_append_left (by omega)]
    · obtain rfl : j = S.ch + 1 := by omega
      refine Int.le_trans (Int.le_of_eq ((sumN_eq fun t ht => ?_).trans hs)) m5.2
      obtain ⟨x, e, _, _, hv⟩ := hg t ht
      have hl := (h.trk ht).len
      rw [htr t ht, e]
      simp only [List.getD_eq_getElem?_getD]
      rw [List.getElem?_append_right (by omega), show S.ch + 1 - (S.tr t).L.length = 0 by omega]
      simpa using hv
/-- what is behind: where something is left, each gets no less than it earned -/
theorem Ct.onw0 {day more : Int} (q : S.onwE day more = 0) : S.may day more = 0 ∧ S.all day ≤ S.N + more ∧ S.ends day S.n = false ∧ againE (S.N + more) (S.ear day) S.n (S.wei day) S.n = 0 := by
  unfold Ct.onwE at q
  split at q
  · rename_i z; exact absurd q z
  · rename_i z
    split at q
    · cases q
    · split at q
      · cases q
      · rename_i z3; exact ⟨by simpa using z, by omega, by simpa using z3, q⟩
theorem out_nn {total : Int} {f : Nat → Int} {n : Nat} (h : outE total f n = 0) (h0 : 0 ≤ total) {t : Nat} (ht : t < n) : 0 ≤ outV total f n t := by
  obtain ⟨_, W, _, _⟩ := outE_ok h
  unfold outV
  rw [if_pos h0]
  exact (W.share0 h0 ht).1
theorem out_zero {total : Int} {f : Nat → Int} {n : Nat} (h : outE total f n = 0) (h0 : 0 ≤ total) {t : Nat} (hz : f t = 0) : outV total f n t = 0 := by
  obtain ⟨_, W, _, _⟩ := outE_ok h
  unfold outV
  rw [if_pos h0, W.no_more (by unfold restV; rw [hz]; simp)]
  unfold partV; rw [hz]; simp
section
variable {day more : Int}
theorem Ct.agn_bd (q : S.onwE day more = 0) {t : Nat} (ht : t < S.n) : S.ear day t ≤ S.agn day more t ∧ Am (S.agn day more t) ∧ (S.whoB day t = true → S.agn day more t = S.ear day t) := by
  obtain ⟨q1, q2, q3, q4⟩ := Ct.onw0 q
  obtain ⟨_, a2, a3, a4⟩ := again_ok q4
  have hl := (leave_ok a2).2
  have h0 : 0 ≤ leaveV (S.N + more) (S.ear day) S.n := by rw [hl]; show 0 ≤ S.N + more - S.all day; omega
  have := out_nn a3 h0 ht
  refine ⟨by unfold Ct.agn againV; omega, again_am q4 ht, fun z => ?_⟩
  have := out_zero a3 h0 (t := t) (by unfold Ct.wei; rw [if_pos z])
  unfold Ct.agn againV; omega
/-- each track takes the change -/
theorem FineC.onw_track (h : FineC S) (q : S.onwE day more = 0) {t : Nat} (ht : t < S.n) : Proofs.YtklaonoekmhakaaGreat.onwE (S.tr t).d (S.tr t).E (S.tr t).L day (S.agn day more t) = 0 := by
  obtain ⟨q1, q2, q3, q4⟩ := Ct.onw0 q
  obtain ⟨m1, m2, m3, m4, m5⟩ := Ct.may0 q1
  have hk := h.trk ht
  have hl := hk.len
  have hz : mayS (S.tr t).L day = 0 := by
    unfold mayS
    rw [if_neg (by omega), if_neg (by have := h.counts m3 ht; omega), if_neg (by omega)]
  have := (Ct.agn_bd q ht).1
  unfold Proofs.YtklaonoekmhakaaGreat.onwE
  rw [hz, if_neg (by simp), if_neg (by unfold Ct.ear at this; omega)]
theorem FineC.onw (h : FineC S) (hs : S.onwE day more = 0 → sumN (S.agn day more) S.n = S.N + more) : FineC (S.onwS day more) := by
  unfold Ct.onwS
  split
  · rename_i q
    obtain ⟨q1, q2, q3, q4⟩ := Ct.onw0 q
    have hb := (h.all_bd day).1
    refine h.changed q1 (by omega) (v := S.agn day more) (fun t ht => ?_) (hs q)
    have hk := h.trk ht
    have hz := h.onw_track q ht
    have ha := Ct.agn_bd q ht
    have hf := hk.s.onw hk.t (day := day) (n := S.agn day more t) ha.2.1.2
    have e : Proofs.YtklaonoekmhakaaGreat.onwS (S.tr t).d (S.tr t).E (S.tr t).L day (S.agn day more t) = (S.tr t).L ++ [⟨day, day, earV (S.tr t).d (S.tr t).E (S.tr t).L day, S.agn day more t - earV (S.tr t).d (S.tr t).E (S.tr t).L day⟩] := by
      unfold Proofs.YtklaonoekmhakaaGreat.onwS; rw [if_pos hz]
    refine ⟨_, by rw [e], ?_, rfl, by show earV _ _ _ _ + (_ - earV _ _ _ _) = _; omega⟩
    rw [e] at hf
    exact hf.ok _ (List.mem_append_right _ (List.mem_singleton.2 rfl))
  · exact h
theorem Ct.afr0 (q : S.afrE day more = 0) : S.may day more = 0 ∧ 0 ≤ S.N + more ∧ outE (S.N + more) S.alo S.n = 0 := by
  unfold Ct.afrE at q
  split at q
  · rename_i z; exact absurd q z
  · rename_i z
    unfold allE at q
    split at q
    · cases q
    · exact ⟨by simpa using z, by omega, q⟩
theorem FineC.afr_track (h : FineC S) (q : S.afrE day more = 0) {t : Nat} (ht : t < S.n) : Proofs.YtklaonoekmhakaaGreat.afrE (S.tr t).L day (outV (S.N + more) S.alo S.n t) = 0 ∧ Am (outV (S.N + more) S.alo S.n t) := by
  obtain ⟨q1, q2, q3⟩ := Ct.afr0 q
  obtain ⟨m1, m2, m3, m4, m5⟩ := Ct.may0 q1
  have hk := h.trk ht
  have hl := hk.len
  have hz : mayS (S.tr t).L day = 0 := by
    unfold mayS
    rw [if_neg (by omega), if_neg (by have := h.counts m3 ht; omega), if_neg (by omega)]
  have h1 := out_nn q3 q2 ht
  obtain ⟨_, W, _, _⟩ := outE_ok q3
  have h2 : outV (S.N + more) S.alo S.n t ≤ S.N + more := by
    unfold outV; rw [if_pos q2]; exact (W.share0 q2 ht).2
  refine ⟨?_, by unfold Am at m5 ⊢; omega⟩
  unfold Proofs.YtklaonoekmhakaaGreat.afrE
  rw [hz, if_neg (by simp), if_neg (by omega)]
theorem FineC.afr (h : FineC S) (hs : S.afrE day more = 0 → sumN (outV (S.N + more) S.alo S.n) S.n = S.N + more) : FineC (S.afrS day more) := by
  unfold Ct.afrS
  split
  · rename_i q
    obtain ⟨q1, q2, q3⟩ := Ct.afr0 q
    refine h.changed q1 q2 (v := outV (S.N + more) S.alo S.n) (fun t ht => ?_) (hs q)
    have hk := h.trk ht
    obtain ⟨hz, ha⟩ := h.afr_track q ht
    have hf := hk.s.afr (day := day) (n := outV (S.N + more) S.alo S.n t) ha.2
    have e : Proofs.YtklaonoekmhakaaGreat.afrS (S.tr t).L day (outV (S.N + more) S.alo S.n t) = (S.tr t).L ++ [⟨day, 0, 0, outV (S.N + more) S.alo S.n t⟩] := by
      unfold Proofs.YtklaonoekmhakaaGreat.afrS; rw [if_pos hz]
    refine ⟨_, by rw [e], ?_, rfl, by show 0 + outV _ _ _ _ = _; omega⟩
    rw [e] at hf
    exact hf.ok _ (List.mem_append_right _ (List.mem_singleton.2 rfl))
  · exact h
/-- ContractNear, behind a change from the beginning -/
theorem ct_afr_alt (h : FineC S) (q : S.afrE day more = 0) {t : Nat} (ht : t < S.n) : (S.afrS day more).alt t = outV (S.N + more) S.alo S.n t ∧ (S.afrS day more).alo t = S.alo t ∧ (S.afrS day more).N = S.N + more ∧ (S.afrS day more).n = S.n := by
  have hz := (h.afr_track q ht).1
  have e1 : (S.afrS day more).tr t = ⟨(S.tr t).d, (S.tr t).E, Proofs.YtklaonoekmhakaaGreat.afrS (S.tr t).L day (outV (S.N + more) S.alo S.n t)⟩ := by
    unfold Ct.afrS; rw [if_pos q]; exact Ct.mapIdx_tr _ ht
  refine ⟨?_, ?_, by unfold Ct.afrS; rw [if_pos q], by unfold Ct.afrS; rw [if_pos q]; simp [Ct.n]⟩
  · unfold Ct.alt
    rw [e1]
    show altV (Proofs.YtklaonoekmhakaaGreat.afrS _ _ _) = _
    unfold Proofs.YtklaonoekmhakaaGreat.afrS altV
    rw [if_pos hz, lastS_app]
    show 0 + outV _ _ _ _ = _; omega
  · unfold Ct.alo; rw [e1]
end
theorem FineC.tel (h : FineC S) (at' day n : Int) : FineC (S.telS at' day n) := by
  unfold Ct.telS
  split
  · exact h
  · rename_i q
    obtain ⟨a, rfl⟩ : ∃ a : Nat, at' = (a : Int) := ⟨at'.toNat, by omega⟩
    have ha : a < S.n := by omega
    rw [Int.toNat_natCast]
    generalize hX : (Trk.mk (S.tr a).d (Proofs.YtklaonoekmhakaaGreat.telS (S.tr a).d.me (S.tr a).E day n) (S.tr a).L) = X
    have hn : (Ct.mk S.N S.la S.ch (S.T.set a X)).n = S.n := by simp [Ct.n]
    have hL : ∀ t, (Ct.mk S.N S.la S.ch (S.T.set a X)).tr t = S.tr t ∨ (t = a ∧ (Ct.mk S.N S.la S.ch (S.T.set a X)).tr t = X) := fun t => by
      unfold Ct.tr
      simp only [List.getD_eq_getElem?_getD, List.getElem?_set]
      by_cases z : a = t
      · subst z
        right
        rw [if_pos rfl, if_pos (by exact ha)]
        exact ⟨rfl, rfl⟩
      · left; rw [if_neg z]
    have hLL : ∀ t, ((Ct.mk S.N S.la S.ch (S.T.set a X)).tr t).L = (S.tr t).L := fun t => by
      rcases hL t with z | ⟨rfl, z⟩
      · rw [z]
      · rw [z, ← hX]
    have hk := h.trk ha
    have hmem : ∀ y ∈ S.T.set a X, y ∈ S.T ∨ y = X := fun y hy => List.mem_or_eq_of_mem_set hy
    refine ⟨by rw [hn]; exact h.n0, by rw [hn]; exact h.n1, h.N0, h.N1, h.la0, h.la1, h.ch, fun y hy => ?_, ?_, ?_, fun j hj => ?_⟩
    · rcases hmem y hy with z | rfl
      · exact h.ok y z
      · rw [← hX]; exact ⟨hk.t.tel day n, hk.s, hk.len, hk.last, hk.un, hk.al0, hk.al1⟩
    · refine Eq.trans ?_ h.sum
      rw [hn]
      exact sumN_eq fun t _ => by unfold Ct.alt; rw [hLL]
    · obtain ⟨F, hF⟩ := h.frs
      refine ⟨F, fun y hy => ?_⟩
      rcases hmem y hy with z | rfl
      · exact hF y z
      · rw [← hX]; exact show (S.tr a).L.map Sp.fr = F from hF _ (Ct.mem ha)
    · rw [hn]
      refine Int.le_trans (Int.le_of_eq (sumN_eq fun t _ => ?_)) (h.tot j hj)
      rw [hLL]
/-- a contract that is made -/
theorem FineC.made {N day : Int} {D : List Dt} {v : Nat → Int} (h0 : 0 < D.length) (h1 : D.length ≤ 64) (hN : 0 ≤ N) (hN1 : N ≤ 9223372036854775807) (hd0 : 1 ≤ day) (hd1 : day ≤ 1000000)
    (hD : ∀ d ∈ D, dtB d = true ∧ d.un ≤ 9223372036854775807 ∧ 0 ≤ d.al ∧ d.al ≤ 9223372036854775807) (hv : ∀ t, t < D.length → 0 ≤ v t) (hs : sumN v D.length = N) :
    FineC ⟨N, day, 0, D.mapIdx fun t d => ⟨d, [], [⟨0, 0, 0, v t⟩]⟩⟩ := by
  have hn : (Ct.mk N day 0 (D.mapIdx fun t d => ⟨d, [], [⟨0, 0, 0, v t⟩]⟩)).n = D.length := by simp [Ct.n]
  have hvm : ∀ t, t < D.length → v t ≤ N := fun t ht => by rw [← hs]; exact sumN_term hv ht
  have hmem : ∀ y ∈ D.mapIdx (fun t d => (⟨d, [], [⟨0, 0, 0, v t⟩]⟩ : Trk)), ∃ t d, t < D.length ∧ d ∈ D ∧ y = ⟨d, [], [⟨0, 0, 0, v t⟩]⟩ := fun y hy => by
    obtain ⟨t, ht⟩ := List.getElem?_of_mem hy
    have hl := (List.getElem?_eq_some_iff.1 ht).1
    rw [List.length_mapIdx] at hl
    rw [List.getElem?_mapIdx, List.getElem?_eq_getElem hl] at ht
    exact ⟨t, D[t], hl, List.getElem_mem hl, by injection ht with ht; exact ht.symm⟩
  have hL : ∀ t, t < D.length → ((Ct.mk N day 0 (D.mapIdx fun t d => ⟨d, [], [⟨0, 0, 0, v t⟩]⟩)).tr t).L = [⟨0, 0, 0, v t⟩] := fun t ht => by
    unfold Ct.tr
    rw [List.getD_eq_getElem?_getD, List.getElem?_mapIdx, List.getElem?_eq_getElem ht]
    rfl
  refine ⟨by rw [hn]; exact h0, by rw [hn]; exact h1, hN, hN1, hd0, hd1, Nat.zero_le _, fun y hy => ?_, ?_, ⟨[0], fun y hy => ?_⟩, fun j hj => ?_⟩
  · obtain ⟨t, d, ht, hd, rfl⟩ := hmem y hy
    obtain ⟨e1, e2, e3, e4⟩ := hD d hd
    exact ⟨FineT.nil e1, FineS.start _ (hv t ht) (Int.le_trans (hvm t ht) hN1), rfl, by show (0 : Int) ≤ day; omega, e2, e3, e4⟩
  · rw [hn]
    refine Eq.trans (sumN_eq fun t ht => ?_) hs
    unfold Ct.alt
    rw [hL t ht]
    show 0 + v t = v t; omega
  · obtain ⟨t, d, ht, hd, rfl⟩ := hmem y hy
    rfl
  · obtain rfl : j = 0 := by have : j < 0 + 1 := hj; omega
    rw [hn]
    refine Int.le_trans (Int.le_of_eq (Eq.trans (sumN_eq fun t ht => ?_) hs)) hN1
    rw [hL t ht]
    show 0 + v t = v t; omega
end
end Go.Proofs.YtklaonoekmhakaaGreat

namespace Go.Proofs.YtklaonoekmhakaaGreat
open Go.RowKit

def sumL0 (q : Nat → Int) : List Nat → Int
  | [] => 0
  | x :: l => q x + sumL0 q l
theorem sumL0_app (q : Nat → Int) (A B : List Nat) : sumL0 q (A ++ B) = sumL0 q A + sumL0 q B := by
  induction A with
  | nil => simp [sumL0]
  | cons x A ih => simp only [List.cons_append, sumL0, ih]; omega
theorem sumL0_range (q : Nat → Int) (n : Nat) : sumL0 q (List.range n) = sumN q n := by
  induction n with
  | zero => rfl
  | succ n ih => rw [List.range_succ, sumL0_app, ih]; simp only [sumL0, sumN]; omega
theorem sumN_front (f : Nat → Int) (n : Nat) : sumN f (n + 1) = f 0 + sumN (fun t => f (t + 1)) n := by
  induction n with
  | zero => simp only [sumN]; omega
  | succ n ih => rw [sumN, ih]; simp only [sumN]; omega
theorem sumL0_at (q : Nat → Int) (l : List Nat) : sumN (fun t => q (l.getD t 0)) l.length = sumL0 q l := by
  induction l with
  | nil => rfl
  | cons x l ih =>
    rw [List.length_cons, sumN_front]
    simp only [sumL0]
    rw [← ih]
    rfl
/-- a place more, put where it belongs -/
def putIn (k : Nat → Int) (x : Nat) : List Nat → List Nat
  | [] => [x]
  | y :: l => if k x < k y then x :: y :: l else y :: putIn k x l
theorem putIn_mem (k : Nat → Int) (x : Nat) (l : List Nat) (z : Nat) : z ∈ putIn k x l ↔ z = x ∨ z ∈ l := by
  induction l with
  | nil => simp [putIn]
  | cons y l ih =>
    unfold putIn
    split
    · simp
    · simp only [List.mem_cons, ih]
      constructor
      · rintro (h | h | h)
        · exact .inr (.inl h)
        · exact .inl h
        · exact .inr (.inr h)
      · rintro (h | h | h)
        · exact .inr (.inl h)
        · exact .inl h
        · exact .inr (.inr h)
theorem putIn_sum (k q : Nat → Int) (x : Nat) (l : List Nat) : sumL0 q (putIn k x l) = q x + sumL0 q l := by
  induction l with
  | nil => rfl
  | cons y l ih =>
    unfold putIn
    split
    · rfl
    · simp only [sumL0, ih]; omega
theorem putIn_len (k : Nat → Int) (x : Nat) (l : List Nat) : (putIn k x l).length = l.length + 1 := by
  induction l with
  | nil => rfl
  | cons y l ih =>
    unfold putIn
    split
    · rfl
    · simp only [List.length_cons, ih]
theorem putIn_up (k : Nat → Int) (x : Nat) (l : List Nat) (h : l.Pairwise fun a b => k a < k b) (hx : ∀ y ∈ l, k y ≠ k x) : (putIn k x l).Pairwise fun a b => k a < k b := by
  induction l with
  | nil => simp [putIn]
  | cons y l ih =>
    rw [List.pairwise_cons] at h
    unfold putIn
    split
    · rename_i q
      rw [List.pairwise_cons, List.pairwise_cons]
      refine ⟨fun z hz => ?_, h⟩
      rcases List.mem_cons.1 hz with rfl | hz
      · exact q
      · have := h.1 z hz; omega
    · rename_i q
      rw [List.pairwise_cons]
      refine ⟨fun z hz => ?_, ih h.2 fun z hz => hx z (List.mem_cons_of_mem _ hz)⟩
      rcases (putIn_mem k x l z).1 hz with rfl | hz
      · have := hx y (List.mem_cons_self ..); omega
      · exact h.1 z hz
theorem key_ne {n : Nat} {K : Nat → Int} {x y : Nat} (hx : x < n) (hy : y < x) : key n K (y : Int) ≠ key n K (x : Int) := by
  unfold key
  rw [Int.toNat_natCast, Int.toNat_natCast]
  intro e
  have e2 : (n : Int) * (K x - K y) = (x : Int) - (y : Int) := by rw [Int.mul_sub]; omega
  by_cases q : K x - K y ≤ 0
  · have := Int.mul_le_mul_of_nonneg_left q (show (0 : Int) ≤ n by omega)
    omega
  · have := Int.mul_le_mul_of_nonneg_left (show (1 : Int) ≤ K x - K y by omega) (show (0 : Int) ≤ n by omega)
    omega
theorem sorted_ex (n : Nat) (K : Nat → Int) : ∀ m, m ≤ n → ∃ l : List Nat, l.length = m ∧ (∀ z ∈ l, z < m) ∧ (∀ q, sumL0 q l = sumL0 q (List.range m)) ∧ l.Pairwise fun (a b : Nat) => key n K (a : Int) < key n K (b : Int) := by
  intro m
  induction m with
  | zero => exact fun _ => ⟨[], rfl, fun z hz => (by cases hz), fun _ => rfl, List.Pairwise.nil⟩
  | succ m ih =>
    intro hm
    obtain ⟨l, h1, h2, h3, h4⟩ := ih (by omega)
    refine ⟨putIn (fun (a : Nat) => key n K (a : Int)) m l, by rw [putIn_len, h1], fun z hz => ?_, fun q => ?_, putIn_up _ _ _ h4 fun y hy => key_ne (by omega) (h2 y hy)⟩
    · rcases (putIn_mem _ _ _ _).1 hz with rfl | hz
      · omega
      · have := h2 z hz; omega
    · rw [putIn_sum, h3, List.range_succ, sumL0_app]
      simp only [sumL0]; omega
/-- whichever the keys: there is an order -/
theorem sorts_ex (n : Nat) (K : Nat → Int) : Sorts n K := by
  obtain ⟨l, h1, h2, h3, h4⟩ := sorted_ex n K n (Nat.le_refl _)
  have hat : ∀ t (ht : t < n), l.getD t 0 = l[t]'(by omega) := fun t ht => by
    rw [List.getD_eq_getElem?_getD, List.getElem?_eq_getElem (by omega)]; rfl
  refine ⟨fun t => (l.getD t 0 : Int), ⟨fun s t _ hst ht => ?_, fun t _ ht => ?_⟩, fun p => ?_⟩
  · have := List.pairwise_iff_getElem.1 h4 s t (by omega) (by omega) hst
    show key n K ((l.getD s 0 : Nat) : Int) < key n K ((l.getD t 0 : Nat) : Int)
    rw [hat s (by omega), hat t ht]
    exact this
  · have := h2 _ (List.getElem_mem (l := l) (show t < l.length by omega))
    show ((0 : Nat) : Int) ≤ ((l.getD t 0 : Nat) : Int) ∧ ((l.getD t 0 : Nat) : Int) < n
    rw [hat t ht]
    constructor
    · exact Int.natCast_nonneg _
    · omega
  · have e1 := sumL0_at (fun x => p (x : Int)) l
    rw [h1, h3, sumL0_range] at e1
    exact e1
/-- allotments are whole -/
theorem out_whole {total : Int} {f : Nat → Int} {n : Nat} (h : outE total f n = 0) : sumN (outV total f n) n = total := out_sum h (sorts_ex _ _)
theorem again_whole {total : Int} {d f : Nat → Int} {n k : Nat} (h : againE total d n f k = 0) : sumN (againV total d n f k) k = total := again_sum h (sorts_ex _ _)
end Go.Proofs.YtklaonoekmhakaaGreat

namespace Go.Proofs.YtklaonoekmhakaaGreat
open Go.RowKit

/-- an item; a price that was set; a line; a book -/
structure Im where
  tag : Int
  grp : Int
  met : Int
  pri : Int
structure Pc where
  it : Int
  dy : Int
  n : Int
structure Ln where
  it : Int
  un : Int
  ch : Int
  fi : Int
  la : Int
structure Bs where
  I : List Im
  L : List Pc

def am64 (x : Int) : Bool := decide (-9223372036854775808 ≤ x) && decide (x ≤ 9223372036854775807)
theorem am64_iff {x : Int} : am64 x = true ↔ Am x := by unfold am64 Am; simp
def imB (x : Im) : Bool := decide (0 ≤ x.tag) && decide (x.tag ≤ 2) && decide (0 ≤ x.grp) && decide (x.grp ≤ 99) && decide (0 ≤ x.met) && decide (x.met ≤ 3) && decide (1 ≤ x.pri)
def bnewE (I : List Im) : Int := if 40 < I.length then 4 else if I.all imB = true then 0 else 1
def hasB (S : Bs) (i : Int) : Bool := decide (0 ≤ i) && decide (i < S.I.length)
def pri0 (S : Bs) (i : Int) : Int := (S.I[i.toNat]?.map Im.pri).getD 0
/-- what was set of an item -/
def ofIt (L : List Pc) (i : Int) : List Pc := L.filter fun x => decide (x.it = i)
def twiB (L : List Pc) (i d : Int) : Bool := L.any fun x => decide (x.it = i) && decide (x.dy = d)
def valB (S : Bs) (i d n : Int) : Bool := hasB S i && decide (1 ≤ d) && decide (d ≤ 1000000) && decide (1 ≤ n)
def setE (S : Bs) (i d n : Int) : Int :=
  if hasB S i = false then 5 else if d < 1 ∨ 1000000 < d ∨ n < 1 then 1 else if twiB S.L i d = true then 6 else if 100 ≤ (ofIt S.L i).length then 4 else 0
def setted (S : Bs) (i d n : Int) : Bs := ⟨S.I, S.L ++ [⟨i, d, n⟩]⟩
def setS (S : Bs) (i d n : Int) : Bs := if setE S i d n = 0 then setted S i d n else S
/-- the last one, up to a day -/
def bstep (i d : Int) (p : Int × Int) (x : Pc) : Int × Int := if x.it = i ∧ x.dy ≤ d ∧ p.1 < x.dy then (x.dy, x.n) else p
def best (S : Bs) (i d : Int) : Int × Int := S.L.foldl (bstep i d) (0, pri0 S i)
def priE (S : Bs) (i d : Int) : Int := if hasB S i = false then 5 else if d < 0 then 1 else 0
def priV (S : Bs) (i d : Int) : Int := if priE S i d = 0 then (best S i d).2 else 0
def lnB (S : Bs) (x : Ln) : Bool := hasB S x.it && decide (1 ≤ x.un) && decide (0 ≤ x.ch) && decide (1 ≤ x.fi) && decide (x.fi ≤ x.la) && decide (x.la ≤ 1000000)
def chkE (S : Bs) (l : List Ln) : Int := if 12 < l.length then 4 else if l.length = 0 then 1 else if l.all (lnB S) = true then 0 else 1

theorem hasB_iff {S : Bs} {i : Int} : hasB S i = true ↔ 0 ≤ i ∧ i < S.I.length := by simp [hasB]
theorem I_set (S : Bs) (i d n : Int) : (setS S i d n).I = S.I := by
  unfold setS; by_cases h : setE S i d n = 0 <;> simp [h, setted]
theorem setE_zero {S : Bs} {i d n : Int} (h : setE S i d n = 0) : hasB S i = true ∧ 1 ≤ d ∧ d ≤ 1000000 ∧ 1 ≤ n ∧ twiB S.L i d = false ∧ (ofIt S.L i).length < 100 := by
  unfold setE at h
  split at h
  · cases h
  · rename_i h1
    split at h
    · cases h
    · rename_i h2
      split at h
      · cases h
      · rename_i h3
        split at h
        · cases h
        · rename_i h4
          exact ⟨by simpa using h1, by omega, by omega, by omega, by simpa using h3, by omega⟩
theorem twiB_iff {L : List Pc} {i d : Int} : twiB L i d = true ↔ ∃ x ∈ L, x.it = i ∧ x.dy = d := by simp [twiB]

/-- prices of items that are there, of days that are from 1 to the last -/
structure FineB (S : Bs) : Prop where
  items : ∀ x ∈ S.I, imB x = true ∧ Am x.pri
  few : S.I.length ≤ 40
  day : ∀ x ∈ S.L, 1 ≤ x.dy ∧ x.dy ≤ 1000000
  am : ∀ x ∈ S.L, 1 ≤ x.n ∧ Am x.n
  one : S.L.Pairwise fun x y => ¬ (x.it = y.it ∧ x.dy = y.dy)
  most : ∀ i, (ofIt S.L i).length ≤ 100
theorem ofIt_snoc (L : List Pc) (i : Int) (x : Pc) : ofIt (L ++ [x]) i = ofIt L i ++ (if x.it = i then [x] else []) := by
  unfold ofIt
  rw [List.filter_append]
  by_cases h : x.it = i <;> simp [h]
theorem FineB.set {S : Bs} (h : FineB S) {i d n : Int} (hn : Am n) : FineB (setS S i d n) := by
  unfold setS
  by_cases q : setE S i d n = 0
  · rw [if_pos q]
    obtain ⟨_, a1, a2, a3, a4, a5⟩ := setE_zero q
    have nt : ∀ x ∈ S.L, ¬ (x.it = i ∧ x.dy = d) := fun x hx e => by
      have := twiB_iff.2 ⟨x, hx, e⟩
      rw [a4] at this; cases this
    refine ⟨h.items, h.few, fun x hx => ?_, fun x hx => ?_, ?_, fun j => ?_⟩
    · rcases List.mem_append.1 hx with hx | hx
      · exact h.day x hx
      · rw [List.mem_singleton.1 hx]; exact ⟨a1, a2⟩
    · rcases List.mem_append.1 hx with hx | hx
      · exact h.am x hx
      · rw [List.mem_singleton.1 hx]; exact ⟨a3, hn⟩
    · show (S.L ++ [_]).Pairwise _
      rw [List.pairwise_append]
      refine ⟨h.one, by simp, fun x hx y hy => ?_⟩
      rw [List.mem_singleton.1 hy]
      exact nt x hx
    · show (ofIt (S.L ++ [_]) j).length ≤ 100
      rw [ofIt_snoc]
      by_cases e : i = j
      · subst e; simp; omega
      · simp [e]; exact h.most j
  · rw [if_neg q]; exact h
/-- what the last one up to a day is -/
theorem fold_is (i d : Int) : ∀ (L : List Pc) (p : Int × Int), p.1 ≤ (L.foldl (bstep i d) p).1 ∧ (L.foldl (bstep i d) p = p ∨ ∃ x ∈ L, x.it = i ∧ x.dy ≤ d ∧ L.foldl (bstep i d) p = (x.dy, x.n)) ∧ ∀ x ∈ L, x.it = i → x.dy ≤ d → x.dy ≤ (L.foldl (bstep i d) p).1
  | [], p => ⟨Int.le_refl _, .inl rfl, fun x hx => by cases hx⟩
  | y :: l, p => by
    obtain ⟨h1, h2, h3⟩ := fold_is i d l (bstep i d p y)
    have hs : p.1 ≤ (bstep i d p y).1 := by
      unfold bstep; split
      · rename_i h; exact Int.le_of_lt h.2.2
      · exact Int.le_refl _
    refine ⟨Int.le_trans hs h1, ?_, fun x hx e1 e2 => ?_⟩
    · rcases h2 with h2 | ⟨x, hx, h2⟩
      · by_cases q : y.it = i ∧ y.dy ≤ d ∧ p.1 < y.dy
        · refine .inr ⟨y, by simp, q.1, q.2.1, ?_⟩
          rw [List.foldl_cons, h2]; unfold bstep; rw [if_pos q]
        · refine .inl ?_
          rw [List.foldl_cons, h2]; unfold bstep; rw [if_neg q]
      · exact .inr ⟨x, by simp [hx], h2⟩
    · rcases List.mem_cons.1 hx with rfl | hx
      · refine Int.le_trans ?_ h1
        unfold bstep; split
        · exact Int.le_refl _
        · rename_i q
          have : ¬ p.1 < x.dy := fun z => q ⟨e1, e2, z⟩
          omega
      · exact h3 x hx e1 e2
theorem best_is (S : Bs) (i d : Int) : 0 ≤ (best S i d).1 ∧ (best S i d = (0, pri0 S i) ∨ ∃ x ∈ S.L, x.it = i ∧ x.dy ≤ d ∧ best S i d = (x.dy, x.n)) ∧ ∀ x ∈ S.L, x.it = i → x.dy ≤ d → x.dy ≤ (best S i d).1 := fold_is i d S.L _
/-- a row of prices of an item, in order of days -/
structure RowOf (S : Bs) (i : Int) (R : List (Int × Int)) : Prop where
  mem : ∀ e : Int × Int, e ∈ R ↔ e = (0, pri0 S i) ∨ (⟨i, e.1, e.2⟩ : Pc) ∈ S.L
  asc : R.Pairwise fun a b => a.1 < b.1
  len : R.length = 1 + (ofIt S.L i).length
/-- the place behind a day -/
structure Pl (R : List (Int × Int)) (d : Int) (k : Nat) : Prop where
  le : k ≤ R.length
  lo : ∀ j e, j < k → R[j]? = some e → e.1 ≤ d
  hi : ∀ j e, k ≤ j → R[j]? = some e → d < e.1
theorem RowOf.congr {S S' : Bs} {i : Int} {R : List (Int × Int)} (h : RowOf S i R) (hI : S'.I = S.I) (hL : ∀ x : Pc, x.it = i → (x ∈ S'.L ↔ x ∈ S.L)) (hl : (ofIt S'.L i).length = (ofIt S.L i).length) : RowOf S' i R :=
  ⟨fun e => by rw [h.mem, hL ⟨i, e.1, e.2⟩ rfl]; unfold pri0; rw [hI], h.asc, by rw [h.len, hl]⟩
theorem asc_get {R : List (Int × Int)} (h : R.Pairwise fun a b => a.1 < b.1) {i j : Nat} {a b : Int × Int} (ha : R[i]? = some a) (hb : R[j]? = some b) (hij : i < j) : a.1 < b.1 := by
  obtain ⟨h1, rfl⟩ := List.getElem?_eq_some_iff.1 ha
  obtain ⟨h2, rfl⟩ := List.getElem?_eq_some_iff.1 hb
  exact (List.pairwise_iff_getElem.1 h) i j h1 h2 hij
theorem RowOf.pos {S : Bs} {i : Int} {R : List (Int × Int)} (h : RowOf S i R) {d : Int} {k : Nat} (hd : 0 ≤ d) (hp : Pl R d k) : 1 ≤ k := by
  have hm : ((0, pri0 S i) : Int × Int) ∈ R := (h.mem _).2 (.inl rfl)
  obtain ⟨j, hj⟩ := List.getElem?_of_mem hm
  by_cases q : k ≤ j
  · have := hp.hi j _ q hj
    simp at this; omega
  · omega
/-- the entry ahead of the place is the last one up to the day -/
theorem RowOf.best {S : Bs} {i : Int} {R : List (Int × Int)} (h : RowOf S i R) {d : Int} {k : Nat} (hd : 0 ≤ d) (hp : Pl R d k) {e : Int × Int} (he : R[k - 1]? = some e) : best S i d = e := by
  have hk := h.pos hd hp
  obtain ⟨b0, b1, b2⟩ := best_is S i d
  have hb : Go.Proofs.YtklaonoekmhakaaGreat.best S i d ∈ R ∧ (Go.Proofs.YtklaonoekmhakaaGreat.best S i d).1 ≤ d := by
    rcases b1 with b1 | ⟨x, hx, e1, e2, e3⟩
    · rw [b1]; exact ⟨(h.mem _).2 (.inl rfl), hd⟩
    · rw [e3]; exact ⟨(h.mem _).2 (.inr (by rw [← e1]; exact hx)), e2⟩
  have he1 := hp.lo (k - 1) e (by omega) he
  have hle : e.1 ≤ (Go.Proofs.YtklaonoekmhakaaGreat.best S i d).1 := by
    rcases (h.mem e).1 (List.mem_of_getElem? he) with q | q
    · rw [q]; exact b0
    · exact b2 _ q rfl he1
  obtain ⟨j, hj⟩ := List.getElem?_of_mem hb.1
  have hjk : j < k := by
    by_cases q : k ≤ j
    · have := hp.hi j _ q hj; omega
    · omega
  by_cases q : j = k - 1
  · subst q; rw [hj] at he; exact Option.some.inj he
  · have := asc_get h.asc hj he (by omega); omega
theorem mem_take_drop {α : Type} (l : List α) (k : Nat) (x : α) : x ∈ l ↔ x ∈ l.take k ∨ x ∈ l.drop k := by
  rw [← List.mem_append, List.take_append_drop]
/-- a row with one more, at its place -/
theorem RowOf.put {S : Bs} {i : Int} {R : List (Int × Int)} (h : RowOf S i R) {d n : Int} {k : Nat} (hp : Pl R d k) (hd : 1 ≤ d) (ht : twiB S.L i d = false) : RowOf (setted S i d n) i (R.take k ++ (d, n) :: R.drop k) := by
  refine ⟨fun e => ?_, ?_, ?_⟩
  · rw [List.mem_append, List.mem_cons]
    have h0 := h.mem e
    rw [mem_take_drop R k e] at h0
    show _ ↔ _ ∨ _ ∈ S.L ++ [(⟨i, d, n⟩ : Pc)]
    rw [List.mem_append, List.mem_singleton]
    have e0 : pri0 (setted S i d n) i = pri0 S i := rfl
    rw [e0]
    constructor
    · rintro (q | q | q)
      · rcases h0.1 (.inl q) with z | z
        · exact .inl z
        · exact .inr (.inl z)
      · rw [q]; exact .inr (.inr rfl)
      · rcases h0.1 (.inr q) with z | z
        · exact .inl z
        · exact .inr (.inl z)
    · rintro (q | q | q)
      · rcases h0.2 (.inl q) with z | z
        · exact .inl z
        · exact .inr (.inr z)
      · rcases h0.2 (.inr q) with z | z
        · exact .inl z
        · exact .inr (.inr z)
      · injection q with _ q1 q2
        refine .inr (.inl ?_)
        rw [← q1, ← q2]
  · rw [List.pairwise_append, List.pairwise_cons]
    refine ⟨h.asc.sublist (List.take_sublist _ _), ⟨fun b hb => ?_, h.asc.sublist (List.drop_sublist _ _)⟩, fun a ha b hb => ?_⟩
    · obtain ⟨j, hj⟩ := List.getElem?_of_mem hb
      rw [List.getElem?_drop] at hj
      exact hp.hi _ _ (by omega) hj
    · have hlo : a.1 < d := by
        obtain ⟨j, hj⟩ := List.getElem?_of_mem ha
        have hjk : j < k := by
          have := (List.getElem?_eq_some_iff.1 hj).1
          rw [List.length_take] at this; omega
        rw [List.getElem?_take, if_pos hjk] at hj
        have h1 := hp.lo j a hjk hj
        by_cases q : a.1 = d
        · rcases (h.mem a).1 (List.mem_of_getElem? hj) with z | z
          · rw [z] at q; simp at q; omega
          · have := twiB_iff.2 ⟨_, z, rfl, q⟩
            rw [ht] at this; cases this
        · omega
      rcases List.mem_cons.1 hb with rfl | hb
      · exact hlo
      · obtain ⟨j, hj⟩ := List.getElem?_of_mem hb
        rw [List.getElem?_drop] at hj
        have := hp.hi _ _ (by omega) hj
        omega
  · have e1 : (ofIt (setted S i d n).L i) = ofIt S.L i ++ [⟨i, d, n⟩] := by
      show ofIt (S.L ++ [_]) i = _
      rw [ofIt_snoc]; simp
    rw [e1]
    have := h.len
    have := hp.le
    simp only [List.length_append, List.length_take, List.length_cons, List.length_drop, List.length_nil]
    omega
/-- rows of other items stay -/
theorem RowOf.other {S : Bs} {i j d n : Int} {R : List (Int × Int)} (h : RowOf S j R) (hne : i ≠ j) : RowOf (setted S i d n) j R := by
  refine h.congr rfl (fun x e => ?_) ?_
  · show x ∈ S.L ++ [_] ↔ _
    rw [List.mem_append, List.mem_singleton]
    constructor
    · rintro (q | q)
      · exact q
      · rw [q] at e; exact absurd e hne
    · exact .inl
  · show (ofIt (S.L ++ [_]) j).length = _
    rw [ofIt_snoc, if_neg (by simpa using hne), List.append_nil]
end Go.Proofs.YtklaonoekmhakaaGreat
