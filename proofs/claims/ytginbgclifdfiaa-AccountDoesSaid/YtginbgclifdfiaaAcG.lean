/- Postings put together, by what they are of. -/
import Derived.Test.YtginbgclifdfiaaAcB
import Derived.Maps.AppendAt
import Derived.Deep.RegionLaw
namespace Go.Proofs.Ytginbgclifdfiaa
open Go.RowKit

section
variable {κ : Type} [DecidableEq κ]
/-- what is of one key, in order -/
def amts (kk : Po → κ) (q : κ) (ps : List Po) : List Int := (ps.filter fun x => kk x = q).map (·.m)
/-- these are all groups of postings -/
structure GrOk (kk : Po → κ) (ps : List Po) (G : List (κ × Value × List Int)) : Prop where
  amt : ∀ x ∈ G, x.2.2 = amts kk x.1 ps
  all : ∀ p ∈ ps, ∃ x ∈ G, x.1 = kk p
  of : ∀ x ∈ G, ∃ p ∈ ps, kk p = x.1
theorem GrOk.nil (kk : Po → κ) : GrOk kk [] [] := ⟨by simp, by simp, by simp⟩
theorem amts_snoc (kk : Po → κ) (q : κ) (ps : List Po) (p : Po) : amts kk q (ps ++ [p]) = amts kk q ps ++ (if kk p = q then [p.m] else []) := by
  unfold amts
  rw [List.filter_append, List.map_append]
  by_cases h : kk p = q <;> simp [h]
theorem GrOk.new {kk : Po → κ} {ps : List Po} {G : List (κ × Value × List Int)} (h : GrOk kk ps G) (p : Po) (v : Value) (hn : ∀ x ∈ G, x.1 ≠ kk p) : GrOk kk (ps ++ [p]) (G ++ [(kk p, v, [p.m])]) := by
  refine ⟨fun x hx => ?_, fun y hy => ?_, fun x hx => ?_⟩
  · rw [amts_snoc]
    rcases List.mem_append.1 hx with hx | hx
    · rw [if_neg (fun e => hn x hx e.symm), List.append_nil]; exact h.amt x hx
    · rw [List.mem_singleton.1 hx]
      have : amts kk (kk p) ps = [] := by
        unfold amts
        rw [List.filter_eq_nil_iff.2 (fun y hy => by
          obtain ⟨x, hx, e⟩ := h.all y hy
          have := hn x hx
          simp; intro q; exact this (e.trans q))]
        rfl
      simp [this]
  · rcases List.mem_append.1 hy with hy | hy
    · obtain ⟨x, hx, e⟩ := h.all y hy
      exact ⟨x, by simp [hx], e⟩
    · rw [List.mem_singleton.1 hy]; exact ⟨(kk p, v, [p.m]), by simp, rfl⟩
  · rcases List.mem_append.1 hx with hx | hx
    · obtain ⟨y, hy, e⟩ := h.of x hx
      exact ⟨y, by simp [hy], e⟩
    · rw [List.mem_singleton.1 hx]; exact ⟨p, by simp, rfl⟩
theorem GrOk.more {kk : Po → κ} {ps : List Po} {G1 G2 : List (κ × Value × List Int)} {v v' : Value} {zs : List Int} (p : Po) (h : GrOk kk ps (G1 ++ (kk p, v, zs) :: G2))
    (hn1 : ∀ x ∈ G1, x.1 ≠ kk p) (hn2 : ∀ x ∈ G2, x.1 ≠ kk p) : GrOk kk (ps ++ [p]) (G1 ++ (kk p, v', zs ++ [p.m]) :: G2) := by
  refine ⟨fun x hx => ?_, fun y hy => ?_, fun x hx => ?_⟩
  · rw [amts_snoc]
    rcases List.mem_append.1 hx with hx | hx
    · rw [if_neg (fun e => hn1 x hx e.symm), List.append_nil]; exact h.amt x (by simp [hx])
    · rcases List.mem_cons.1 hx with rfl | hx
      · have := h.amt (kk p, v, zs) (by simp)
        simp only [if_true]
        rw [← this]
      · rw [if_neg (fun e => hn2 x hx e.symm), List.append_nil]; exact h.amt x (by simp [hx])
  · have key : ∀ y, (∃ x ∈ G1 ++ (kk p, v, zs) :: G2, x.1 = kk y) → ∃ x ∈ G1 ++ (kk p, v', zs ++ [p.m]) :: G2, x.1 = kk y := by
      rintro y ⟨x, hx, e⟩
      rcases List.mem_append.1 hx with hx | hx
      · exact ⟨x, by simp [hx], e⟩
      · rcases List.mem_cons.1 hx with rfl | hx
        · exact ⟨(kk p, v', zs ++ [p.m]), by simp, e⟩
        · exact ⟨x, by simp [hx], e⟩
    rcases List.mem_append.1 hy with hy | hy
    · exact key y (h.all y hy)
    · rw [List.mem_singleton.1 hy]; exact ⟨(kk p, v', zs ++ [p.m]), by simp, rfl⟩
  · rcases List.mem_append.1 hx with hx | hx
    · obtain ⟨y, hy, e⟩ := h.of x (by simp [hx])
      exact ⟨y, by simp [hy], e⟩
    · rcases List.mem_cons.1 hx with rfl | hx
      · exact ⟨p, by simp, rfl⟩
      · obtain ⟨y, hy, e⟩ := h.of x (by simp [hx])
        exact ⟨y, by simp [hy], e⟩

/-- a row of amounts of a call's own -/
def Am1 (w : World) (B : Nat) (v : Value) (zs : List Int) : Prop := w.ownsRow B 2 1 v zs.length (zs.map (Value.int .i64))
/-- groups in memory: a map in block m, and rows behind it, each of one key alone -/
structure Gr (ek : κ → Value) (k : TypeId) (w : World) (m : Nat) (G : List (κ × Value × List Int)) : Prop where
  map : Mp Try.prog k w m (G.map fun x => (ek x.1, x.2.1))
  own : ∀ x ∈ G, Am1 w (m + 1) x.2.1 x.2.2
  apart : G.Pairwise fun x y => x.2.1.ownBlock = none ∨ x.2.1.ownBlock ≠ y.2.1.ownBlock
variable {ek : κ → Value} {k : TypeId} {w w' : World} {m : Nat} {G : List (κ × Value × List Int)}
omit [DecidableEq κ] in
theorem Gr.fresh (ek : κ → Value) (k : TypeId) (w : World) : Gr ek k (w.alloc (.map #[] 0)) w.heap.size ([] : List (κ × Value × List Int)) := ⟨Mp.fresh w, by simp, .nil⟩
theorem Am1.keep {B : Nat} {v : Value} {zs : List Int} {row : Option Nat} (h : Am1 w B v zs) (g : w.grownBy w' row) (hn : v.ownBlock = none ∨ v.ownBlock ≠ row) : Am1 w' B v zs := World.ownsRow.kept h g hn
theorem grown_up (q : Below w.heap.size w w') (row : Option Nat) : w.grownBy w' row := ⟨q.os, q.tape, q.output, q.size, fun i hi _ => q.block i hi⟩
theorem Am1.up {B : Nat} {v : Value} {zs : List Int} (h : Am1 w B v zs) (q : Below w.heap.size w w') : Am1 w' B v zs := h.keep (grown_up q none) (by cases v.ownBlock <;> simp)
omit [DecidableEq κ] in
theorem Gr.up (h : Gr ek k w m G) (q : Below w.heap.size w w') : Gr ek k w' m G := ⟨h.map.up q, fun x hx => (h.own x hx).up q, h.apart⟩
omit [DecidableEq κ] in
theorem Gr.drew (h : Gr ek k w m G) : Gr ek k w.drew m G := h.up ⟨rfl, rfl, rfl, Nat.le_refl _, fun _ _ => rfl⟩
omit [DecidableEq κ] in
theorem Gr.drewN (h : Gr ek k w m G) (n : Nat) : Gr ek k (w.drewN n) m G := h.up ⟨rfl, rfl, rfl, Nat.le_refl _, fun _ _ => rfl⟩
omit [DecidableEq κ] in
theorem Gr.lt (h : Gr ek k w m G) : m < w.heap.size := h.map.lt
omit [DecidableEq κ] in
/-- keys are apart -/
theorem Gr.keys (h : Gr ek k w m G) : (G.map (·.1)).Nodup := by
  have := h.map.apart
  rw [List.map_map] at this
  refine List.Pairwise.of_map ek ?_ (by rw [List.map_map]; exact this)
  intro a b hn e; exact hn (by rw [e])
theorem nodup_mid {α : Type} {l1 l2 : List α} {x : α} (h : (l1 ++ x :: l2).Nodup) : x ∉ l1 ∧ x ∉ l2 := by
  rw [List.nodup_append] at h
  obtain ⟨_, h2, h3⟩ := h
  exact ⟨fun q => h3 x q x (by simp) rfl, (List.nodup_cons.1 h2).1⟩

theorem Am1.lt {B : Nat} {v : Value} {zs : List Int} (h : Am1 w B v zs) {g : Nat} (e : v.ownBlock = some g) : B ≤ g ∧ g < w.heap.size := World.ownsRow.lt h g e
theorem Am1.empty (w : World) (B : Nat) : Am1 w B (.slice none 0 0) [] := World.ownsRow_nil w B _ _
abbrev Apart (G : List (κ × Value × List Int)) : Prop := G.Pairwise fun x y => x.2.1.ownBlock = none ∨ x.2.1.ownBlock ≠ y.2.1.ownBlock
omit [DecidableEq κ] in
theorem rows_new {w1 : World} {q : κ} {v' : Value} {zs' : List Int} (ho : ∀ x ∈ G, Am1 w (m + 1) x.2.1 x.2.2) (ha : Apart G) (g : w.grownBy w1 none)
    (h' : Am1 w1 (m + 1) v' zs') (hl : v'.ownBlock = none ∨ ∃ i, v'.ownBlock = some i ∧ w.heap.size ≤ i) : (∀ x ∈ G ++ [(q, v', zs')], Am1 w1 (m + 1) x.2.1 x.2.2) ∧ Apart (G ++ [(q, v', zs')]) := by
  refine ⟨fun x hx => ?_, ?_⟩
  · rcases List.mem_append.1 hx with hx | hx
    · exact (ho x hx).keep g (by cases x.2.1.ownBlock <;> simp)
    · rw [List.mem_singleton.1 hx]; exact h'
  · unfold Apart
    rw [List.pairwise_append]
    refine ⟨ha, by simp, fun x hx y hy => ?_⟩
    rw [List.mem_singleton.1 hy]
    show x.2.1.ownBlock = Option.none ∨ x.2.1.ownBlock ≠ v'.ownBlock
    cases hb : x.2.1.ownBlock with
    | none => exact .inl rfl
    | some i =>
      refine .inr (fun e => ?_)
      have := ((ho x hx).lt hb).2
      rcases hl with hl | ⟨j, hl, h2⟩
      · rw [hl] at e; cases e
      · rw [hl] at e; injection e with e; omega
omit [DecidableEq κ] in
theorem rows_set {w1 : World} {q : κ} {v v' : Value} {zs zs' : List Int} {G1 G2 : List (κ × Value × List Int)} (ho : ∀ x ∈ G1 ++ (q, v, zs) :: G2, Am1 w (m + 1) x.2.1 x.2.2) (ha : Apart (G1 ++ (q, v, zs) :: G2)) (g : w.grownBy w1 v.ownBlock)
    (h' : Am1 w1 (m + 1) v' zs') (hl : v'.ownBlock = v.ownBlock ∨ ∃ i, v'.ownBlock = some i ∧ w.heap.size ≤ i) : (∀ x ∈ G1 ++ (q, v', zs') :: G2, Am1 w1 (m + 1) x.2.1 x.2.2) ∧ Apart (G1 ++ (q, v', zs') :: G2) := by
  unfold Apart at ha ⊢
  rw [List.pairwise_append, List.pairwise_cons] at ha ⊢
  obtain ⟨a1, ⟨a2, a3⟩, a4⟩ := ha
  have n1 : ∀ x ∈ G1, x.2.1.ownBlock = Option.none ∨ x.2.1.ownBlock ≠ v.ownBlock := fun x hx => a4 x hx (q, v, zs) (by simp)
  have n2 : ∀ x ∈ G2, x.2.1.ownBlock = Option.none ∨ x.2.1.ownBlock ≠ v.ownBlock := fun x hx => by
    rcases a2 x hx with h | h
    · cases hb : x.2.1.ownBlock with
      | none => exact .inl rfl
      | some i => refine .inr ?_; rw [show v.ownBlock = Option.none from h]; simp
    · exact .inr (fun e => h e.symm)
  have m1 : ∀ x : κ × Value × List Int, Am1 w (m + 1) x.2.1 x.2.2 → (x.2.1.ownBlock = Option.none ∨ x.2.1.ownBlock ≠ v.ownBlock) → x.2.1.ownBlock = Option.none ∨ x.2.1.ownBlock ≠ v'.ownBlock := fun x hx hn => by
    rcases hl with hl | ⟨i, hl, h2⟩
    · rw [hl]; exact hn
    · cases hb : x.2.1.ownBlock with
      | none => exact .inl rfl
      | some j =>
        refine .inr (fun e => ?_)
        have := (hx.lt hb).2
        rw [hl] at e; injection e with e; omega
  refine ⟨fun x hx => ?_, a1, ⟨fun y hy => ?_, a3⟩, fun x hx y hy => ?_⟩
  · rcases List.mem_append.1 hx with hx | hx
    · exact (ho x (by simp [hx])).keep g (n1 x hx)
    · rcases List.mem_cons.1 hx with rfl | hx
      · exact h'
      · exact (ho x (by simp [hx])).keep g (n2 x hx)
  · rcases m1 y (ho y (by simp [hy])) (n2 y hy) with h | h
    · cases hv : v'.ownBlock with
      | none => exact .inl rfl
      | some j => refine .inr ?_; rw [h]; simp
    · exact .inr (fun e => h e.symm)
  · rcases List.mem_cons.1 hy with rfl | hy
    · exact m1 x (ho x (by simp [hx])) (n1 x hx)
    · exact a4 x hx y (by simp [hy])
omit [DecidableEq κ] in
theorem Gr.of {l : List (Value × Value)} {w1 w2 : World} (hm : Mp Try.prog k w2 m l) (e : l = G.map fun x => (ek x.1, x.2.1)) (g : w1.grownBy w2 (some m)) (ho : ∀ x ∈ G, Am1 w1 (m + 1) x.2.1 x.2.2) (ha : Apart G) : Gr ek k w2 m G := by
  subst e
  refine ⟨hm, fun x hx => (ho x hx).keep g ?_, ha⟩
  cases hb : x.2.1.ownBlock with
  | none => exact .inl rfl
  | some i =>
    refine .inr (fun e => ?_)
    have := ((ho x hx).lt hb).1
    injection e with e; omega
omit [DecidableEq κ] in
theorem map_split {q : κ} {v0 : Value} {l1 l2 : List (Value × Value)} (hi : ∀ a b, ek a = ek b → a = b) (e : (G.map fun x => (ek x.1, x.2.1)) = l1 ++ (ek q, v0) :: l2) :
    ∃ G1 zs G2, G = G1 ++ (q, v0, zs) :: G2 ∧ l1 = (G1.map fun x => (ek x.1, x.2.1)) ∧ l2 = G2.map fun x => (ek x.1, x.2.1) := by
  obtain ⟨G1, G2', rfl, e1, e2⟩ := List.map_eq_append_iff.1 e
  obtain ⟨x, G2, rfl, e3, e4⟩ := List.map_eq_cons_iff.1 e2
  obtain ⟨q', v', zs⟩ := x
  injection e3 with e5 e6
  have e7 := hi _ _ e5
  have e8 : v' = v0 := e6
  subst e7; subst e8
  exact ⟨G1, zs, G2, rfl, e1.symm, e4.symm⟩

/-- the first half of 'm[k] = append(m[k], v)': what is there, and the way back -/
theorem gr_look {t e : TypeId} {kk : Po → κ} {ps : List Po} (p : Po) (K : Go.Maps.Keyed Try.prog k) (ht : Try.prog.underlying t = some (.map k e)) (hz : ∀ W, (zeroValue e).run Try.prog W = .ok (.slice none 0 0) W)
    (hi : ∀ a b, ek a = ek b → a = b) (H : Gr ek k w m G) (O : GrOk kk ps G) (hk : Ky Try.prog k (ek (kk p))) :
    ∃ v zs, (∀ W : World, W.heap[m]? = w.heap[m]? → (Instr.lookup t (.map (some m)) (ek (kk p)) false).run Try.prog W = .ok v W) ∧ Am1 w (m + 1) v zs ∧ zs.length ≤ ps.length ∧
      ∀ (w1 : World) (v' : Value), w.grownBy w1 v.ownBlock → Am1 w1 (m + 1) v' (zs ++ [p.m]) → (v'.ownBlock = v.ownBlock ∨ ∃ i, v'.ownBlock = some i ∧ w.heap.size ≤ i) →
        ∃ w2 G', (Instr.mapUpdate t (.map (some m)) (ek (kk p)) v').run Try.prog w1 = .ok () w2 ∧ Gr ek k w2 m G' ∧ GrOk kk (ps ++ [p]) G' ∧ w1.grownBy w2 (some m) ∧ w2.heap.size = w1.heap.size := by
  obtain ⟨v, hrun, hv⟩ := H.map.look K ht (hz w) hk
  have hrun' : ∀ W : World, W.heap[m]? = w.heap[m]? → (Instr.lookup t (.map (some m)) (ek (kk p)) false).run Try.prog W = .ok v W := fun W hW => by
    have hM : Mp Try.prog k W m (G.map fun x => (ek x.1, x.2.1)) := H.map.keep hW
    obtain ⟨u, hr, hu⟩ := hM.look K ht (hz W) hk
    rcases hv with ⟨rfl, h1⟩ | h1 <;> rcases hu with ⟨rfl, h2⟩ | h2
    · exact hr
    · exact absurd rfl (h1 _ h2)
    · exact absurd rfl (h2 _ h1)
    · rw [hM.one h1 h2]; exact hr
  have hne : ∀ {u : Value} {ys : List Int}, Am1 w (m + 1) u ys → some m ≠ u.ownBlock := fun {u ys} h e => by have := (h.lt e.symm).1; omega
  have hnot : (∀ x ∈ G.map (fun x => (ek x.1, x.2.1)), x.1 ≠ ek (kk p)) → ∀ x ∈ G, x.1 ≠ kk p := fun h x hx e => h _ (List.mem_map.2 ⟨x, hx, rfl⟩) (by rw [e])
  rcases hv with ⟨rfl, h1⟩ | h1
  · refine ⟨.slice Option.none 0 0, [], hrun', Am1.empty _ _, Nat.zero_le _, fun w1 v' g h' hl => ?_⟩
    have hM : Mp Try.prog k w1 m (G.map fun x => (ek x.1, x.2.1)) := H.map.keep (g.block m H.lt (by simp [Value.ownBlock]))
    obtain ⟨w2, l', r1, r2, r3, r4, r5⟩ := hM.put (val := v') K ht hk
    rcases r3 with ⟨_, rfl⟩ | ⟨l1, v0, l2, e1, _⟩
    · obtain ⟨q1, q2⟩ := rows_new (q := kk p) H.own H.apart g h' hl
      exact ⟨w2, G ++ [(kk p, v', [p.m])], r1, Gr.of r2 (by simp) r4 q1 q2, O.new p v' (hnot h1), r4, r5⟩
    · exact absurd rfl (h1 (ek (kk p), v0) (by rw [e1]; simp))
  · obtain ⟨l1, l2, e1⟩ := List.append_of_mem h1
    obtain ⟨G1, zs, G2, rfl, e2, e3⟩ := map_split hi e1
    have hown := H.own (kk p, v, zs) (by simp)
    refine ⟨v, zs, hrun', hown, ?_, fun w1 v' g h' hl => ?_⟩
    · have := O.amt (kk p, v, zs) (by simp)
      rw [show zs = _ from this]
      unfold amts
      rw [List.length_map]
      exact List.length_filter_le _ _
    · have hM : Mp Try.prog k w1 m ((G1 ++ (kk p, v, zs) :: G2).map fun x => (ek x.1, x.2.1)) := H.map.keep (g.block m H.lt (hne hown))
      obtain ⟨w2, l', r1, r2, r3, r4, r5⟩ := hM.put (val := v') K ht hk
      have hkeys := H.keys
      rw [List.map_append, List.map_cons] at hkeys
      obtain ⟨k1, k2⟩ := nodup_mid hkeys
      have n1 : ∀ x ∈ G1, x.1 ≠ kk p := fun x hx e => k1 (List.mem_map.2 ⟨x, hx, e⟩)
      have n2 : ∀ x ∈ G2, x.1 ≠ kk p := fun x hx e => k2 (List.mem_map.2 ⟨x, hx, e⟩)
      rcases r3 with ⟨h2, _⟩ | ⟨l3, v0, l4, e4, e5⟩
      · exact absurd rfl (h2 _ h1)
      · obtain ⟨G3, zs3, G4, e6, e7, e8⟩ := map_split hi e4
        have : G1 = G3 ∧ G2 = G4 := by
          have hap : ∀ (A B C D : List (κ × Value × List Int)) (x y : κ × Value × List Int), x.1 = y.1 → (∀ z ∈ A, z.1 ≠ x.1) → (∀ z ∈ C, z.1 ≠ x.1) → A ++ x :: B = C ++ y :: D → A = C ∧ B = D := by
            intro A
            induction A with
            | nil =>
              intro B C D x y hxy _ hC e
              cases C with
              | nil => simp at e; exact ⟨rfl, e.2⟩
              | cons c C => simp at e; exact absurd (by rw [e.1]) (hC c (by simp))
            | cons a A ih =>
              intro B C D x y hxy hA hC e
              cases C with
              | nil => simp at e; exact absurd (by rw [e.1, hxy]) (hA a (by simp))
              | cons c C =>
                simp at e
                obtain ⟨i1, i2⟩ := ih B C D x y hxy (fun z hz => hA z (by simp [hz])) (fun z hz => hC z (by simp [hz])) e.2
                exact ⟨by rw [e.1, i1], i2⟩
          have hk3 := H.keys
          rw [e6, List.map_append, List.map_cons] at hk3
          obtain ⟨k3, _⟩ := nodup_mid hk3
          exact hap G1 G2 G3 G4 (kk p, v, zs) (kk p, v0, zs3) rfl n1 (fun x hx e => k3 (List.mem_map.2 ⟨x, hx, e⟩)) e6
        obtain ⟨rfl, rfl⟩ := this
        obtain ⟨q1, q2⟩ := rows_set H.own H.apart g h' hl
        exact ⟨w2, G1 ++ (kk p, v', zs ++ [p.m]) :: G2, r1, Gr.of r2 (by rw [e5, e7, e8]; simp) r4 q1 q2, O.more p n1 n2, r4, r5⟩

/-- 'm[k] = append(m[k], v)' where m[k] is reckoned once -/
theorem gr_entry {t e : TypeId} {kk : Po → κ} {ps : List Po} (p : Po) (K : Go.Maps.Keyed Try.prog k) (ht : Try.prog.underlying t = some (.map k e)) (hz : ∀ W, (zeroValue e).run Try.prog W = .ok (.slice none 0 0) W)
    (hi : ∀ a b, ek a = ek b → a = b) (H : Gr ek k w m G) (O : GrOk kk ps G) (hk : Ky Try.prog k (ek (kk p))) :
    ∃ w0 v zs, ∃ s : Nat, (Instr.mapEntry t (.map (some m)) (ek (kk p))).run Try.prog w = .ok (.tuple #[v, .int .i64 (s : Int)]) w0 ∧ w.grownBy w0 (some m) ∧ w0.heap.size = w.heap.size ∧ Am1 w0 (m + 1) v zs ∧ zs.length ≤ ps.length ∧
      ∀ (w1 : World) (v' : Value), w0.grownBy w1 v.ownBlock → Am1 w1 (m + 1) v' (zs ++ [p.m]) → (v'.ownBlock = v.ownBlock ∨ ∃ i, v'.ownBlock = some i ∧ w0.heap.size ≤ i) →
        ∃ w2 G', (Instr.entryStore t (.map (some m)) (.int .i64 (s : Int)) v').run Try.prog w1 = .ok () w2 ∧ Gr ek k w2 m G' ∧ GrOk kk (ps ++ [p]) G' ∧ w1.grownBy w2 (some m) ∧ w2.heap.size = w1.heap.size := by
  obtain ⟨w0, v, l1, l2, s, r1, r2, r3, r4, r5⟩ := H.map.entry K ht (hz w) hk
  have hne : ∀ {W : World} {u : Value} {ys : List Int}, Am1 W (m + 1) u ys → some m ≠ u.ownBlock := fun {W u ys} h e => by have := (h.lt e.symm).1; omega
  have kp : ∀ {u : Value} {ys : List Int}, Am1 w (m + 1) u ys → Am1 w0 (m + 1) u ys := fun {u ys} h => h.keep r4 (by
    cases hb : u.ownBlock with
    | none => exact .inl rfl
    | some i => refine .inr (fun e => ?_); have := (h.lt hb).1; injection e with e; omega)
  have hown0 : ∀ x ∈ G, Am1 w0 (m + 1) x.2.1 x.2.2 := fun x hx => kp (H.own x hx)
  have hnot : (∀ x ∈ G.map (fun x => (ek x.1, x.2.1)), x.1 ≠ ek (kk p)) → ∀ x ∈ G, x.1 ≠ kk p := fun h x hx e => h _ (List.mem_map.2 ⟨x, hx, rfl⟩) (by rw [e])
  rcases r3 with ⟨h1, h2, h3, h4⟩ | e1
  · subst h2; subst h3; subst h4
    refine ⟨w0, _, [], s, r1, r4, r5, Am1.empty _ _, Nat.zero_le _, fun w1 v' g h' hl => ?_⟩
    have hM := r2.keep (g.block m (by rw [r5]; exact H.lt) (by simp [Value.ownBlock]))
    obtain ⟨w2, q1, q2, q3, q4⟩ := hM.store (t := t) (val := v')
    obtain ⟨g1, g2⟩ := rows_new (q := kk p) hown0 H.apart g h' hl
    exact ⟨w2, G ++ [(kk p, v', [p.m])], q1, Gr.of q2 (by simp) q3 g1 g2, O.new p v' (hnot h1), q3, q4⟩
  · obtain ⟨G1, zs, G2, rfl, e2, e3⟩ := map_split hi e1
    have hown := hown0 (kk p, v, zs) (by simp)
    refine ⟨w0, v, zs, s, r1, r4, r5, hown, ?_, fun w1 v' g h' hl => ?_⟩
    · have := O.amt (kk p, v, zs) (by simp)
      rw [show zs = _ from this]
      unfold amts
      rw [List.length_map]
      exact List.length_filter_le _ _
    · have hM := r2.keep (g.block m (by rw [r5]; exact H.lt) (hne hown))
      obtain ⟨w2, q1, q2, q3, q4⟩ := hM.store (t := t) (val := v')
      have hkeys := H.keys
      rw [List.map_append, List.map_cons] at hkeys
      obtain ⟨k1, k2⟩ := nodup_mid hkeys
      have n1 : ∀ x ∈ G1, x.1 ≠ kk p := fun x hx e => k1 (List.mem_map.2 ⟨x, hx, e⟩)
      have n2 : ∀ x ∈ G2, x.1 ≠ kk p := fun x hx e => k2 (List.mem_map.2 ⟨x, hx, e⟩)
      obtain ⟨g1, g2⟩ := rows_set hown0 H.apart g h' hl
      exact ⟨w2, G1 ++ (kk p, v', zs ++ [p.m]) :: G2, q1, Gr.of q2 (by rw [e2, e3]; simp) q3 g1 g2, O.more p n1 n2, q3, q4⟩
end
end Go.Proofs.Ytginbgclifdfiaa
