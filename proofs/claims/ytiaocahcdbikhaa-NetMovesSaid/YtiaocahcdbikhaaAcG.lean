/- Postings put together, by what they are of. -/
import Derived.Maps.AppendAt
import Derived.Deep.RegionLaw
import Derived.Test.YtiaocahcdbikhaaAcB
namespace Go.Proofs.Ytiaocahcdbikhaa
open Go.RowKit

section
variable {κ : Type} [DecidableEq κ]
/-- what is of one key, in order -/
def amts (kk : Po → κ) (q : κ) (ps : List Po) : List Int := (ps.filter fun x => kk x = q).map (·.m)
/-- these are all groups of postings -/
structure GrOk (kk : Po → κ) (ps : List Po) (G : List (κ × Value × List Int)) : Prop where
  amt : ∀ x ∈ G, x.2.2 = amts kk x.1 ps
  all : ∀ p ∈ ps, ∃ x ∈ G, x.1 = kk p
  of : ∀ x ∈ G, ∃ p ∈ ps, kk p = x.1
theorem GrOk.nil (kk : Po → κ) : GrOk kk [] [] := ⟨by simp, by simp, by simp⟩
theorem amts_snoc (kk : Po → κ) (q : κ) (ps : List Po) (p : Po) : amts kk q (ps ++ [p]) = amts kk q ps ++ (if kk p = q then [p.m] else []) := by
  unfold amts
  rw [List.filter_append, List.map_append]
  by_cases h : kk p = q <;> simp [h]
theorem GrOk.new {kk : Po → κ} {ps : List Po} {G : List (κ × Value × List Int)} (h : GrOk kk ps G) (p : Po) (v : Value) (hn : ∀ x ∈ G, x.1 ≠ kk p) : GrOk kk (ps ++ [p]) (G ++ [(kk p, v, [p.m])]) := by
  refine ⟨fun x hx => ?_, fun y hy => ?_, fun x hx => ?_⟩
  · rw [amts_snoc]
    rcases List.mem_append.1 hx with hx | hx
    · rw [if_neg (fun e => hn x hx e.symm), List.append_nil]; exact h.amt x hx
    · rw [List.mem_singleton.1 hx]
      have : amts kk (kk p) ps = [] := by
        unfold amts
        rw [List.filter_eq_nil_iff.2 (fun y hy => by
          obtain ⟨x, hx, e⟩ := h.all y hy
          have := hn x hx
          simp; intro q; exact this (e.trans q))]
        rfl
      simp [this]
  · rcases List.mem_append.1 hy with hy | hy
    · obtain ⟨x, hx, e⟩ := h.all y hy
      exact ⟨x, by simp [hx], e⟩
    · rw [List.mem_singleton.1 hy]; exact ⟨(kk p, v, [p.m]), by simp, rfl⟩
  · rcases List.mem_append.1 hx with hx | hx
    · obtain ⟨y, hy, e⟩ := h.of x hx
      exact ⟨y, by simp [hy], e⟩
    · rw [List.mem_singleton.1 hx]; exact ⟨p, by simp, rfl⟩
theorem GrOk.more {kk : Po → κ} {ps : List Po} {G1 G2 : List (κ × Value × List Int)} {v v' : Value} {zs : List Int} (p : Po) (h : GrOk kk ps (G1 ++ (kk p, v, zs) :: G2))
    (hn1 : ∀ x ∈ G1, x.1 ≠ kk p) (hn2 : ∀ x ∈ G2, x.1 ≠ kk p) : GrOk kk (ps ++ [p]) (G1 ++ (kk p, v', zs ++ [p.m]) :: G2) := by
  refine ⟨fun x hx => ?_, fun y hy => ?_, fun x hx => ?_⟩
  · rw [amts_snoc]
    rcases List.mem_append.1 hx with hx | hx
    · rw [if_neg (fun e => hn1 x hx e.symm), List.append_nil]; exact h.amt x (by simp [hx])
    · rcases List.mem_cons.1 hx with rfl | hx
      · have := h.amt (kk p, v, zs) (by simp)
        simp only [if_true]
        rw [← this]
      · rw [if_neg (fun e => hn2 x hx e.symm), List.append_nil]; exact h.amt x (by simp [hx])
  · have key : ∀ y, (∃ x ∈ G1 ++ (kk p, v, zs) :: G2, x.1 = kk y) → ∃ x ∈ G1 ++ (kk p, v', zs ++ [p.m]) :: G2, x.1 = kk y := by
      rintro y ⟨x, hx, e⟩
      rcases List.mem_append.1 hx with hx | hx
      · exact ⟨x, by simp [hx], e⟩
      · rcases List.mem_cons.1 hx with rfl | hx
        · exact ⟨(kk p, v', zs ++ [p.m]), by simp, e⟩
        · exact ⟨x, by simp [hx], e⟩
    rcases List.mem_append.1 hy with hy | hy
    · exact key y (h.all y hy)
    · rw [List.mem_singleton.1 hy]; exact ⟨(kk p, v', zs ++ [p.m]), by simp, rfl⟩
  · rcases List.mem_append.1 hx with hx | hx
    · obtain ⟨y, hy, e⟩ := h.of x (by simp [hx])
      exact ⟨y, by simp [hy], e⟩
    · rcases List.mem_cons.1 hx with rfl | hx
      · exact ⟨p, by simp, rfl⟩
      · obtain ⟨y, hy, e⟩ := h.of x (by simp [hx])
        exact ⟨y, by simp [hy], e⟩

/-- a row of amounts of a call's own -/
def Am1 (w : World) (B : Nat) (v : Value) (zs : List Int) : Prop := w.ownsRow B 2 1 v zs.length (zs.map (Value.int .i64))
/-- groups in memory: a map in block m, and rows behind it, each of one key alone -/
structure Gr (ek : κ → Value) (k : TypeId) (w : World) (m : Nat) (G : List (κ × Value × List Int)) : Prop where
  map : Mp Try.prog k w m (G.map fun x => (ek x.1, x.2.1))
  own : ∀ x ∈ G, Am1 w (m + 1) x.2.1 x.2.2
  apart : G.Pairwise fun x y => x.2.1.ownBlock = none ∨ x.2.1.ownBlock ≠ y.2.1.ownBlock
variable {ek : κ → Value} {k : TypeId} {w w' : World} {m : Nat} {G : List (κ × Value × List Int)}
omit [DecidableEq κ] in
theorem Gr.fresh (ek : κ → Value) (k : TypeId) (w : World) : Gr ek k (w.alloc (.map #[] 0)) w.heap.size ([] : List (κ × Value × List Int)) := ⟨Mp.fresh w, by simp, .nil⟩
theorem Am1.keep {B : Nat} {v : Value} {zs : List Int} {row : Option Nat} (h : Am1 w B v zs) (g : w.grownBy w' row) (hn : v.ownBlock = none ∨ v.ownBlock ≠ row) : Am1 w' B v zs := World.ownsRow.kept h g hn
theorem grown_up (q : Below w.heap.size w w') (row : Option Nat) : w.grownBy w' row := ⟨q.os, q.tape, q.output, q.size, fun i hi _ => q.block i hi⟩
theorem Am1.up {B : Nat} {v : Value} {zs : List Int} (h : Am1 w B v zs) (q : Below w.heap.size w w') : Am1 w' B v zs := h.keep (grown_up q none) (by cases v.ownBlock <;> simp)
omit [DecidableEq κ] in
theorem Gr.up (h : Gr ek k w m G) (q : Below w.heap.size w w') : Gr ek k w' m G := ⟨h.map.up q, fun x hx => (h.own x hx).up q, h.apart⟩
omit [DecidableEq κ] in
theorem Gr.drew (h : Gr ek k w m G) : Gr ek k w.drew m G := h.up ⟨rfl, rfl, rfl, Nat.le_refl _, fun _ _ => rfl⟩
omit [DecidableEq κ] in
theorem Gr.drewN (h : Gr ek k w m G) (n : Nat) : Gr ek k (w.drewN n) m G := h.up ⟨rfl, rfl, rfl, Nat.le_refl _, fun _ _ => rfl⟩
omit [DecidableEq κ] in
theorem Gr.lt (h : Gr ek k w m G) : m < w.heap.size := h.map.lt
omit [DecidableEq κ] in
/-- keys are apart -/
theorem Gr.keys (h : Gr ek k w m G) : (G.map (·.1)).Nodup := by
  have := h.map.apart
  rw [List.map_map] at this
  refine List.Pairwise.of_map ek ?_ (by rw [List.map_map]; exact this)
  intro a b hn e; exact hn (by rw [e])
theorem Am1.lt {B : Nat} {v : Value} {zs : List Int} (h : Am1 w B v zs) {g : Nat} (e : v.ownBlock = some g) : B ≤ g ∧ g < w.heap.size := World.ownsRow.lt h g e
theorem Am1.empty (w : World) (B : Nat) : Am1 w B (.slice none 0 0) [] := World.ownsRow_nil w B _ _
abbrev Apart9 (G : List (κ × Value × List Int)) : Prop := G.Pairwise fun x y => x.2.1.ownBlock = none ∨ x.2.1.ownBlock ≠ y.2.1.ownBlock
omit [DecidableEq κ] in
omit [DecidableEq κ] in
omit [DecidableEq κ] in
theorem Gr.of {l : List (Value × Value)} {w1 w2 : World} (hm : Mp Try.prog k w2 m l) (e : l = G.map fun x => (ek x.1, x.2.1)) (g : w1.grownBy w2 (some m)) (ho : ∀ x ∈ G, Am1 w1 (m + 1) x.2.1 x.2.2) (ha : Apart9 G) : Gr ek k w2 m G := by
  subst e
  refine ⟨hm, fun x hx => (ho x hx).keep g ?_, ha⟩
  cases hb : x.2.1.ownBlock with
  | none => exact .inl rfl
  | some i =>
    refine .inr (fun e => ?_)
    have := ((ho x hx).lt hb).1
    injection e with e; omega
omit [DecidableEq κ] in
end
end Go.Proofs.Ytiaocahcdbikhaa
