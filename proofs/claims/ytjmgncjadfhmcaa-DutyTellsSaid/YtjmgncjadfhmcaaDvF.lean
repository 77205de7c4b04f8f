/- The reference's Find: what it bears. -/
import Derived.Test.YtjmgncjadfhmcaaDvE
import Derived.Test.YtjmgncjadfhmcaaDuL
namespace Go.Proofs.Ytjmgncjadfhmcaa
open Go.RowKit

/-- an obligation on its way: its box, its places, two sums in boxes -/
structure FqS (wb W : World) (bd ba bu : Nat) (vl : Value) (ks : List Nat) (d1 d2 me mi ma : Int) (va sa : Int) (aa : Option Addr) (la ca : Nat) (vu su : Int) (au : Option Addr) (lu cu : Nat) : Prop where
  bel : Below wb.heap.size wb W
  d : Has W bd 43 #[vl, .int .i64 d1, .int .i64 d2, .int .i64 me, .int .i64 mi, .int .i64 ma]
  row : ZRow W wb.heap.size vl ks
  al : SmX W ba va sa aa la ca
  un : SmX W bu vu su au lu cu
  lo : wb.heap.size ≤ bd ∧ wb.heap.size ≤ ba ∧ wb.heap.size ≤ bu ∧ ba ≠ bu
section
variable {wb W W' : World} {bd ba bu : Nat} {vl : Value} {ks : List Nat} {d1 d2 me mi ma va sa vu su : Int} {aa au : Option Addr} {la ca lu cu : Nat}
theorem FqS.up (h : FqS wb W bd ba bu vl ks d1 d2 me mi ma va sa aa la ca vu su au lu cu) (q : Below W.heap.size W W') : FqS wb W' bd ba bu vl ks d1 d2 me mi ma va sa aa la ca vu su au lu cu :=
  ⟨up2 h.bel q, h.d.up q, h.row.up q, h.al.up q, h.un.up q, h.lo⟩
theorem FqS.drew (h : FqS wb W bd ba bu vl ks d1 d2 me mi ma va sa aa la ca vu su au lu cu) : FqS wb W.drew bd ba bu vl ks d1 d2 me mi ma va sa aa la ca vu su au lu cu := h.up (Below.refl _ _).drew
theorem FqS.nes (h : FqS wb W bd ba bu vl ks d1 d2 me mi ma va sa aa la ca vu su au lu cu) : bd ≠ ba ∧ bd ≠ bu := ⟨h.d.ne h.al.has (by decide), h.d.ne h.un.has (by decide)⟩
theorem FqS.putA (h : FqS wb W bd ba bu vl ks d1 d2 me mi ma va sa aa la ca vu su au lu cu) {t m : Int} {a2 : Option Addr} {l2 c2 : Nat} (hE : Ex W t a2 l2 c2 m) :
    FqS wb ((W.setCell ⟨ba, 0, none⟩ (.int .i64 t)).setCell ⟨ba, 1, none⟩ (.slice a2 l2 c2)) bd ba bu vl ks d1 d2 me mi ma m t a2 l2 c2 vu su au lu cu := by
  obtain ⟨n1, n2⟩ := h.nes
  obtain ⟨o1, o2, o3, o4⟩ := h.lo
  have h1 := h.al.has.put 0 (.int .i64 t)
  exact ⟨(h.bel.setCell o2 _).setCell o2 _, (h.d.off (p := ⟨ba, 0, none⟩) n1 _).off (p := ⟨ba, 1, none⟩) n1 _, (h.row.off h.al.has (by decide) 0 _).off h1 (by decide) 1 _, h.al.put hE,
    (h.un.off h.al.has (by decide) (Ne.symm o4) 0 _).off h1 (by decide) (Ne.symm o4) 1 _, h.lo⟩
theorem FqS.putU (h : FqS wb W bd ba bu vl ks d1 d2 me mi ma va sa aa la ca vu su au lu cu) {t m : Int} {a2 : Option Addr} {l2 c2 : Nat} (hE : Ex W t a2 l2 c2 m) :
    FqS wb ((W.setCell ⟨bu, 0, none⟩ (.int .i64 t)).setCell ⟨bu, 1, none⟩ (.slice a2 l2 c2)) bd ba bu vl ks d1 d2 me mi ma va sa aa la ca m t a2 l2 c2 := by
  obtain ⟨n1, n2⟩ := h.nes
  obtain ⟨o1, o2, o3, o4⟩ := h.lo
  have h1 := h.un.has.put 0 (.int .i64 t)
  exact ⟨(h.bel.setCell o3 _).setCell o3 _, (h.d.off (p := ⟨bu, 0, none⟩) n2 _).off (p := ⟨bu, 1, none⟩) n2 _, (h.row.off h.un.has (by decide) 0 _).off h1 (by decide) 1 _,
    (h.al.off h.un.has (by decide) o4 0 _).off h1 (by decide) o4 1 _, h.un.put hE, h.lo⟩
/-- a store into the obligation's box -/
theorem FqS.putD (h : FqS wb W bd ba bu vl ks d1 d2 me mi ma va sa aa la ca vu su au lu cu) (i : Nat) (u : Value) {d1' d2' mi' ma' : Int}
    (he : (#[vl, .int .i64 d1, .int .i64 d2, .int .i64 me, .int .i64 mi, .int .i64 ma] : Array Value).setIfInBounds i u = #[vl, .int .i64 d1', .int .i64 d2', .int .i64 me, .int .i64 mi', .int .i64 ma']) :
    FqS wb (W.setCell ⟨bd, i, none⟩ u) bd ba bu vl ks d1' d2' me mi' ma' va sa aa la ca vu su au lu cu := by
  obtain ⟨n1, n2⟩ := h.nes
  obtain ⟨o1, o2, o3, o4⟩ := h.lo
  have h1 := h.d.put i u
  rw [he] at h1
  exact ⟨h.bel.setCell o1 _, h1, h.row.off h.d (by decide) i u, h.al.off h.d (by decide) (Ne.symm n1) i u, h.un.off h.d (by decide) (Ne.symm n2) i u, h.lo⟩
/-- one more place -/
theorem FqS.putL (h : FqS wb W bd ba bu vl ks d1 d2 me mi ma va sa aa la ca vu su au lu cu) (hk : ks.length ≤ 1000) {k y : Nat} (hy : Has W y 3 #[.int .i64 (k : Int)]) :
    ∃ a8 c8 w5, (Builtin.append_ #[40, 40] 40 #[vl, .slice (some ⟨y, 0, none⟩) 1 1]).run Try.prog W = .ok (.slice a8 (ks.length + 1) c8) w5 ∧ w5.cell? ⟨bd, 0, none⟩ = some vl ∧ w5.frozen? ⟨bd, 0, none⟩ = false ∧
      FqS wb (w5.setCell ⟨bd, 0, none⟩ (.slice a8 (ks.length + 1) c8)) bd ba bu (.slice a8 (ks.length + 1) c8) (ks ++ [k]) d1 d2 me mi ma va sa aa la ca vu su au lu cu := by
  obtain ⟨n1, n2⟩ := h.nes
  obtain ⟨o1, o2, o3, o4⟩ := h.lo
  obtain ⟨v, w5, hr, hz, hg, hx⟩ := h.row.app hk h.bel.size hy (ty := 40)
  obtain ⟨a8, c8, hv, _⟩ := hz.form
  rw [List.length_append, List.length_singleton] at hv
  subst hv
  have hown : ∀ b T cs, Has W b T cs → T ≠ 3 → Has w5 b T cs := fun b T cs hb hT => by
    refine (hg.block b hb.lt fun e => ?_).trans hb
    rcases h.row with ⟨q, _⟩ | ⟨g, cap, q, _, _, _, cs', q5, _⟩
    · rw [q] at e; cases e
    · rw [q] at e
      have e : b = g := by injection e
      exact hb.ne q5 hT e
  have hd5 := hown _ _ _ h.d (by decide)
  have hbel : Below wb.heap.size wb w5 := h.bel.grown hg h.bel.size fun j hj => by
    rcases h.row with ⟨q, _⟩ | ⟨g, cap, q, q2, _⟩
    · rw [q] at hj; cases hj
    · rw [q] at hj
      have hj : g = j := by injection hj
      omega
  refine ⟨a8, c8, w5, hr, hd5.cell 0, hd5.free 0, hbel.setCell o1 _, hd5.put 0 _, hz.off hd5 (by decide) 0 _, ?_, ?_, h.lo⟩
  · exact SmX.off ⟨hown _ _ _ h.al.has (by decide), hx _ _ _ _ _ h.al.ex⟩ hd5 (by decide) (Ne.symm n1) 0 _
  · exact SmX.off ⟨hown _ _ _ h.un.has (by decide), hx _ _ _ _ _ h.un.ex⟩ hd5 (by decide) (Ne.symm n2) 0 _
end
/-- places in a block of integers -/
def NsT (W : World) (a : Option Addr) (l : List Nat) : Prop := ∃ (g : Nat) (cs : Array Value), a = some ⟨g, 0, none⟩ ∧ Has W g 3 cs ∧ ∀ (i k : Nat), l[i]? = some k → cs[i]? = some (natV k)
theorem NsT.up {W W' : World} {a : Option Addr} {l : List Nat} (h : NsT W a l) (q : Below W.heap.size W W') : NsT W' a l := by
  obtain ⟨g, cs, h1, h2, h3⟩ := h
  exact ⟨g, cs, h1, h2.up q, h3⟩
theorem NsT.ns {W : World} {a : Option Addr} {l : List Nat} (h : NsT W a l) : NsA W a l := by
  obtain ⟨g, cs, h1, h2, h3⟩ := h
  refine .inr ⟨g, 0, h1, fun i x hx j u hu => ?_⟩
  match j, hu with
  | 0, hu =>
    simp [natC] at hu
    rw [h2.cell, show 0 + i * 1 + 0 = i by omega, h3 i x hx, ← hu]
theorem ZRow.nst {W : World} {B : Nat} {v : Value} {ks : List Nat} (h : ZRow W B v ks) (hk : ks ≠ []) : ∃ a c, v = .slice a ks.length c ∧ NsT W a ks := by
  rcases h with ⟨_, h2⟩ | ⟨g, cap, h1, h2, h3, h4, cs, h5, h6⟩
  · exact absurd h2 hk
  · refine ⟨_, cap, h1, g, cs, rfl, h5, fun i k hi => ?_⟩
    rw [← Array.getElem?_toList, h6, List.getElem?_append_left (by rw [List.length_map]; exact (List.getElem?_eq_some_iff.1 hi).1), List.getElem?_map, hi]; rfl
/-- what Find of the reference bears ahead of a line -/
structure FoS (w1 W : World) (S : Bs) (l : List Ln) (d : Int) (i : Nat) (v9 : Value) (Y : List DuX) : Prop where
  own : OwL W w1.heap.size [⟨43, 6, v9, Y.length, Y.flatMap DuX.cells⟩]
  map : Y.map DuX.d = (fsts (dKey S l) i).map (duAt S l d)
  ns : ∀ y ∈ Y, NsT W y.a y.d.ls
  ok : ∀ j ∈ fsts (dKey S l) i, dOver S l d (mems (dKey S l) l.length j) = false
  bel : Below w1.heap.size w1 W
section
variable {w1 W W' : World} {S : Bs} {l : List Ln} {d : Int} {i : Nat} {v9 : Value} {Y : List DuX}
theorem FoS.up (h : FoS w1 W S l d i v9 Y) (q : Below W.heap.size W W') : FoS w1 W' S l d i v9 Y := ⟨h.own.up q, h.map, fun y hy => (h.ns y hy).up q, h.ok, up2 h.bel q⟩
theorem FoS.start (w1 : World) (S : Bs) (l : List Ln) (d : Int) : FoS w1 (w1.alloc (.cells #[] 43)) S l d 0 (.slice (some ⟨w1.heap.size, 0, none⟩) 0 0) [] := by
  refine ⟨⟨fun j x hx => ?_, fun j k x y hjk hx hy => ?_⟩, rfl, fun y hy => (by cases hy), fun j hj => (by simp [fsts] at hj), boxed _ _⟩
  · match j, hx with
    | 0, hx =>
      obtain rfl := Option.some.inj hx
      exact ⟨rfl, .inr ⟨_, 0, #[], rfl, Nat.le_refl _, heap_alloc_new w1 _, Nat.le_refl _, by unfold maxLen; omega, rfl, rfl⟩⟩
  · match j, k, hx, hy with
    | 0, 0, _, _ => exact absurd rfl hjk
theorem FoS.skip (h : FoS w1 W S l d i v9 Y) (hf : ¬ isFst (dKey S l) i = true) : FoS w1 W S l d (i + 1) v9 Y := by
  have e : fsts (dKey S l) (i + 1) = fsts (dKey S l) i := by rw [fsts_step, if_neg hf, List.append_nil]
  exact ⟨h.own, by rw [e]; exact h.map, h.ns, by rw [e]; exact h.ok, h.bel⟩
theorem FoS.len (h : FoS w1 W S l d i v9 Y) : Y.length ≤ i := by
  have := congrArg List.length h.map
  rw [List.length_map, List.length_map] at this
  have := fsts_le (dKey S l) i
  omega
/-- what an append to the row of obligations leaves of places -/
theorem FoS.kept (h : FoS w1 W S l d i v9 Y) (hg : W.grownBy W' v9.ownBlock) {a : Option Addr} {ks : List Nat} (hn : NsT W a ks) : NsT W' a ks := by
  obtain ⟨g, cs, h1, h2, h3⟩ := hn
  refine ⟨g, cs, h1, (hg.block g h2.lt fun e => ?_).trans h2, h3⟩
  rcases (h.own.own 0 _ rfl).2 with ⟨q, _⟩ | ⟨g', cp, cur, q, _, q2, _⟩
  · have q : v9 = .slice none 0 0 := q
    rw [q] at e; cases e
  · have q : v9 = .slice (some ⟨g', 0, none⟩) Y.length cp := q
    rw [q] at e
    have e : g = g' := by injection e
    subst e
    exact h2.ne (show Has W g 43 cur from q2) (by decide) rfl
theorem FoS.more (h : FoS w1 W S l d i v9 Y) (hi : i ≤ 1000) (hf : isFst (dKey S l) i = true) (ho : dOver S l d (mems (dKey S l) l.length i) = false) {x : DuX} (hx : x.d = duAt S l d i) (hn : NsT W x.a x.d.ls) {y : Nat} (hy : Has W y 43 x.cells.toArray) :
    ∃ v w5, (Builtin.append_ #[34, 34] 34 #[v9, .slice (some ⟨y, 0, none⟩) 1 1]).run Try.prog W = .ok v w5 ∧ FoS w1 w5 S l d (i + 1) v (Y ++ [x]) := by
  have hl := h.len
  obtain ⟨v, w5, hr, ho5, hb, _, _, hg⟩ := h.own.app2 (i := 0) rfl (t := 34) (ty := 34) Try.underlying34 infoDuty rfl (Nat.zero_lt_succ _) (by decide) x.cells rfl (ad := ⟨y, 0, none⟩) (fun j u hu => by
    rw [addr_off, Nat.zero_add, hy.cell]
    exact (List.getElem?_toArray (xs := x.cells) (i := j)).trans hu) (fun u hu => by
      simp [DuX.cells] at hu
      rcases hu with rfl | rfl | rfl | rfl | rfl | rfl <;> rfl) (by simp only; omega) h.bel (Nat.le_refl _) h.bel.size
  have e : fsts (dKey S l) (i + 1) = fsts (dKey S l) i ++ [i] := by rw [fsts_step, if_pos hf]
  refine ⟨v, w5, hr, ⟨?_, ?_, fun u hu => ?_, fun j hj => ?_, hb⟩⟩
  · rw [List.flatMap_append, List.flatMap_singleton, List.length_append]; exact ho5
  · rw [e, List.map_append, List.map_append, h.map]; simp [hx]
  · rcases List.mem_append.1 hu with hu | hu
    · exact h.kept hg (h.ns u hu)
    · rw [List.mem_singleton.1 hu]; exact h.kept hg hn
  · rw [e] at hj
    rcases List.mem_append.1 hj with hj | hj
    · exact h.ok j hj
    · rw [List.mem_singleton.1 hj]; exact ho
/-- the end -/
theorem FoS.done (h : FoS w1 W S l d l.length v9 Y) (hd : 0 ≤ d) (hc : chkE S l = 0) {w0 : World} (hb : Below w0.heap.size w0 w1) : FindR w0 S l d (.returned (.tuple #[v9, .int .i64 0])) W := by
  have hz : findE S l d = 0 := by
    unfold findE
    rw [if_neg (by omega), if_neg (by omega), duOver_any, if_neg]
    rw [List.any_eq_true]
    rintro ⟨j, hj, ho⟩
    rw [h.ok j hj] at ho; cases ho
  obtain ⟨a, c, e, _⟩ := h.own.form (i := 0) rfl
  have e : v9 = .slice a Y.length c := e
  subst e
  refine ⟨a, c, Y, by rw [hz], ?_, ⟨(OwL.rws du_len h.own (i := 0) rfl rfl).1, fun y hy => (h.ns y hy).ns⟩, up2 hb h.bel⟩
  unfold findV
  rw [if_pos hz]
  exact h.map
end
/-- the first ones ahead, one by one -/
def noneB (K : Nat → Kk) (i k : Nat) : Bool := (List.range k).all fun j => decide (K j ≠ K i)
theorem none_step (K : Nat → Kk) (i k : Nat) : noneB K i (k + 1) = (noneB K i k && !decide (K k = K i)) := by
  unfold noneB
  rw [List.range_succ, List.all_append]
  simp
theorem none_fst (K : Nat → Kk) (i : Nat) : noneB K i i = isFst K i := rfl
theorem mems_none {K : Nat → Kk} {i : Nat} (h : isFst K i = true) : mems K i i = [] :=
  List.eq_nil_iff_forall_not_mem.2 fun j hj => isFst_iff.1 h j (mem_mems.1 hj).1 (mem_mems.1 hj).2
theorem over_no {S : Bs} {l : List Ln} {d : Int} {ls : List Nat} (h0 : ∀ k ∈ ls, aloE S (lnAt l k) d = 0) (h1 : am64 (alT S l d ls) = true) (h2 : am64 (unT l ls) = true) : dOver S l d ls = false := by
  unfold dOver
  unfold alT at h1
  unfold unT at h2
  rw [h1, h2, Bool.or_eq_false_iff, Bool.or_eq_false_iff]
  refine ⟨⟨?_, rfl⟩, rfl⟩
  rw [List.any_eq_false]
  intro k hk
  simp [h0 k hk]
theorem over_al {S : Bs} {l : List Ln} {d : Int} {ls : List Nat} (h : am64 (alT S l d ls) = false ∨ am64 (unT l ls) = false) : dOver S l d ls = true := by
  unfold dOver
  unfold alT unT at h
  rcases h with h | h <;> rw [h] <;> simp
theorem over_alo {S : Bs} {l : List Ln} {d : Int} {ls : List Nat} {k : Nat} (hk : k ∈ ls) (h : aloE S (lnAt l k) d ≠ 0) : dOver S l d ls = true := by
  unfold dOver
  rw [Bool.or_eq_true, Bool.or_eq_true]
  exact .inl (.inl (List.any_eq_true.2 ⟨k, hk, by simpa using h⟩))
theorem sums_small {S : Bs} {l : List Ln} {d : Int} (hAm : ∀ x ∈ l, Am x.un) {ls : List Nat} (hn : ls.length ≤ 1000) : Small (alT S l d ls) ∧ Small (unT l ls) := by
  have key : ∀ (f : Nat → Int) (ls : List Nat), (∀ k, Am (f k)) → -(9223372036854775808 * (ls.length : Int)) ≤ sumN f ls ∧ sumN f ls ≤ 9223372036854775808 * (ls.length : Int) := by
    intro f ls hf
    induction ls with
    | nil => simp [sumN]
    | cons x l ih =>
      have := hf x
      unfold Am at this
      simp only [sumN, List.length_cons]
      omega
  have h1 := key (fun k => aloV S (lnAt l k) d) ls fun k => aloV_am _ _ _
  have h2 := key (fun k => (lnAt l k).un) ls fun k => lnAt_mem (P := fun x => Am x.un) hAm (am_small (by decide) (by decide)) k
  have hs : ∀ v : Int, -(9223372036854775808 * (ls.length : Int)) ≤ v → v ≤ 9223372036854775808 * (ls.length : Int) → Small v := fun v a b => by
    unfold Small
    have h3 : (1000 : Int) ^ 9 * 1 ≤ 1000 ^ (9 + 191) := by
      rw [Int.pow_add]; exact Int.mul_le_mul_of_nonneg_left (by have := pow_pos' 191; omega) (by decide)
    have h4 : (1000 : Int) ^ 9 = 1000000000000000000000000000 := by decide
    have h5 : (1000 : Int) ^ (9 + 191) = 1000 ^ 200 := rfl
    rw [h4, h5] at h3
    generalize (1000 : Int) ^ 200 = P at *
    omega
  exact ⟨hs _ h1.1 h1.2, hs _ h2.1 h2.2⟩
end Go.Proofs.Ytjmgncjadfhmcaa
