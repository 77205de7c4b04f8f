/- The steps that lay bytes: closures, one behind the other. -/
import Derived.Test.YtjffcgimdffkoaaGreatDoorJnD
namespace Go.Proofs.YtjffcgimdffkoaaGreatDoor
open Go.RowKit

theorem But.hasT {p b g t : Nat} {w w' : World} {s : SS} {m : Int} {cs : Array Value} (k : But p b w w') (hA : At w p b s m) (q : Has w g t cs) (h1 : t ≠ 56) (h2 : t ≠ 84) : Has w' g t cs :=
  k.has q (hA.st.nbox q h1 h2).1 (hA.st.nbox q h1 h2).2
/-- what the steps have caught: the half in X, the first place in F, the place behind in E, the blocks with the mark 0 (from g on) in I, with the mark 1 (from c on) in C -/
structure Cau (w : World) (p h n a : Nat) (l : List UInt8) (X F E I g C c : Nat) : Prop where
  hx : Has w X 60 (hv p h n)
  hf : Has w F 3 #[.int .i64 (a : Int)]
  he : Has w E 3 #[.int .i64 ((a + nb l.length : Nat) : Int)]
  hi : Has w I 49 #[.slice (some ⟨g, 0, none⟩) (nb l.length) (nb l.length)]
  hir : Has w g 9 (rowA (layX l false))
  hc : Has w C 49 #[.slice (some ⟨c, 0, none⟩) (nb l.length) (nb l.length)]
  hcr : Has w c 9 (rowA (layX l true))
section
variable {w w' : World} {p b h n a X F E I g C c : Nat} {l : List UInt8} {s : SS} {m : Int}
theorem Cau.up (H : Cau w p h n a l X F E I g C c) (k : Below w.heap.size w w') : Cau w' p h n a l X F E I g C c := ⟨H.hx.up k, H.hf.up k, H.he.up k, H.hi.up k, H.hir.up k, H.hc.up k, H.hcr.up k⟩
theorem Cau.but (H : Cau w p h n a l X F E I g C c) (hA : At w p b s m) (k : But p b w w') : Cau w' p h n a l X F E I g C c :=
  ⟨k.hasT hA H.hx (by decide) (by decide), k.hasT hA H.hf (by decide) (by decide), k.hasT hA H.he (by decide) (by decide), k.hasT hA H.hi (by decide) (by decide), k.hasT hA H.hir (by decide) (by decide), k.hasT hA H.hc (by decide) (by decide), k.hasT hA H.hcr (by decide) (by decide)⟩
theorem Cau.drew (H : Cau w p h n a l X F E I g C c) : Cau w.drew p h n a l X F E I g C c := H.up ⟨rfl, rfl, rfl, Nat.le_refl _, fun _ _ => rfl⟩
/-- what the second step reads -/
def Cau2 (w : World) (p h n a k X F I g : Nat) : Prop :=
  w.cell? ⟨X, 0, none⟩ = some (.pointer (some ⟨p, 0, none⟩)) ∧ w.cell? ⟨X, 1, none⟩ = some (.int .i64 (h : Int)) ∧ w.cell? ⟨X, 2, none⟩ = some (.int .i64 (n : Int)) ∧ w.cell? ⟨F, 0, none⟩ = some (.int .i64 (a : Int)) ∧ w.cell? ⟨I, 0, none⟩ = some (.slice (some ⟨g, 0, none⟩) k k)
theorem Cau.two (H : Cau w p h n a l X F E I g C c) : Cau2 w p h n a (nb l.length) X F I g := ⟨H.hx.cell 0, H.hx.cell 1, H.hx.cell 2, H.hf.cell 0, H.hi.cell 0⟩
theorem Cau.two' (H : Cau w p h n a l X F E I g C c) : Cau2 w p h n a (nb l.length) X F C c := ⟨H.hx.cell 0, H.hx.cell 1, H.hx.cell 2, H.hf.cell 0, H.hc.cell 0⟩
/-- what the third and the fourth step read -/
def Cau3 (w : World) (p h n a k X F I g : Nat) (x : ByteArray) : Prop :=
  w.cell? ⟨X, 0, none⟩ = some (.pointer (some ⟨p, 0, none⟩)) ∧ w.cell? ⟨X, 1, none⟩ = some (.int .i64 (h : Int)) ∧ w.cell? ⟨X, 2, none⟩ = some (.int .i64 (n : Int)) ∧ w.cell? ⟨F, 0, none⟩ = some (.int .i64 (a : Int)) ∧ w.cell? ⟨I, 0, none⟩ = some (.slice (some ⟨g, 0, none⟩) k k) ∧ w.cell? ⟨g, 0, none⟩ = some (.string x)
theorem lay_head (l : List UInt8) (m : Bool) : (layX l m)[0]? = some (first l m) := by rw [lay_cons]; rfl
theorem Cau.three (H : Cau w p h n a l X F E I g C c) : Cau3 w p h n a (nb l.length) X F I g (first l false) := ⟨H.hx.cell 0, H.hx.cell 1, H.hx.cell 2, H.hf.cell 0, H.hi.cell 0, H.hir.strs 0 _ (lay_head l false)⟩
theorem Cau.four (H : Cau w p h n a l X F E I g C c) : Cau3 w p h n a (nb l.length) X F C c (first l true) := ⟨H.hx.cell 0, H.hx.cell 1, H.hx.cell 2, H.hf.cell 0, H.hc.cell 0, H.hcr.strs 0 _ (lay_head l true)⟩

set_option maxRecDepth 100000 in
set_option maxHeartbeats 4000000 in
theorem lay1_any (H : Cau w p h n a l X F E I g C c) (hA : At w p b s m) (hh : h ≤ 1) (hn : n ≤ 4096) (ha : a + nb l.length ≤ n) (hf : 1 + h * n + n ≤ s.n) (hm : m ≤ 900000) :
    Calls Tryz.prog 58 #[.pointer (some ⟨X, 0, none⟩), .pointer (some ⟨E, 0, none⟩)] w fun e w' =>
      e = .returned (.int .i64 (runW s (endW s.B (1 + h * n + (a + nb l.length)) (1 + h * n + n))).2) ∧ At w' p b (runW s (endW s.B (1 + h * n + (a + nb l.length)) (1 + h * n + n))).1 (m + 1000) ∧ But p b w w' := by
  obtain ⟨q, hq⟩ : ∃ q, q = a + nb l.length := ⟨_, rfl⟩
  have he := H.he.cell 0
  have B3 := H.hx.box3
  unfold Box3 at B3
  obtain ⟨c0, c1, c2⟩ := B3
  rw [← hq] at he ha ⊢
  have he' : w.cell? ⟨E, 0, none⟩ = some (.int .i64 (q : Int)) := he
  have HC := Lib.hid (end_any w p b h n q s m hA hh hn ha hf hm)
  clear H hA hq he
  go_enter Tryz.func58, Tryz.ntmps58
  go_wp2_with fail
  refine HC.out.mono ?_
  rintro e w1 ⟨rfl, g1, g2⟩
  have k1 := Lib.hid g1
  have k2 := Lib.hid g2
  clear g1 g2
  go_wp2
  go_ret
  exact ⟨rfl, k1.out.fine_more (by omega), k2.out⟩

theorem tail_len (l : List UInt8) : ((layX l true).drop 1).length = nb l.length - 1 := rest_len l
set_option maxRecDepth 100000 in
set_option maxHeartbeats 4000000 in
theorem lay2_any (H : Cau w p h n a l X F E I g C c) (hA : At w p b s m) (hh : h ≤ 1) (hn : n ≤ 4096) (ha : a ≤ 5000) (hl : nb l.length ≤ 900) (hl0 : 0 < nb l.length) (hm : m ≤ 900000) :
    Calls Tryz.prog 60 #[.pointer (some ⟨X, 0, none⟩), .pointer (some ⟨F, 0, none⟩), .pointer (some ⟨I, 0, none⟩)] w fun e w' =>
      e = .returned (.int .i64 (runW s (bodyW (1 + h * n + (a + 1)) ((layX l true).drop 1))).2) ∧ At w' p b (runW s (bodyW (1 + h * n + (a + 1)) ((layX l true).drop 1))).1 (m + 1000) ∧ But p b w w' := by
  have T := H.two
  have hS : Strs w g 0 (layX l false) := H.hir.strs
  have hir := H.hir
  have hne := hA.st.nbox hir (by decide) (by decide)
  obtain ⟨k, hk⟩ : ∃ k, k = nb l.length := ⟨_, rfl⟩
  rw [← hk] at T hl hl0
  have ht : (layX l false).drop 1 = (layX l true).drop 1 := by rw [lay_cons l false]; rfl
  have hS1 := hS.drop 1
  rw [ht, Nat.zero_add] at hS1
  obtain ⟨j, hj⟩ : ∃ j, k = j + 1 := ⟨k - 1, by omega⟩
  have hlen : ((layX l true).drop 1).length = j := by rw [tail_len, ← hk]; omega
  obtain ⟨xs, hxs⟩ : ∃ xs, xs = (layX l true).drop 1 := ⟨_, rfl⟩
  rw [← hxs] at hS1 hlen ⊢
  subst hj
  have e1 : IntKind.i64.wrap ((a : Int) + 1) = (a : Int) + 1 := IntWalk.i64_in _ (by omega)
  have hbd : Below w.heap.size w w.drew := ⟨rfl, rfl, rfl, Nat.le_refl _, fun _ _ => rfl⟩
  have HZ : Hid (∀ W : World, But p b w.drew W → Cau2 W p h n a (j + 1) X F I g) := fun W q => by
    have := ((H.up hbd).but (hA.up hbd) q).two
    rwa [← hk] at this
  have HC : Hid (∀ o, (j = 0 ∨ o = 1) → Calls Tryz.prog 61 #[.agg #[.pointer (some ⟨p, 0, none⟩), .int .i64 (h : Int), .int .i64 (n : Int)], .int .i64 ((a : Int) + 1), .slice (some ⟨g, o, none⟩) j j] w.drew fun e w' =>
      e = .returned (.int .i64 (runW s (bodyW (1 + h * n + (a + 1)) xs)).2) ∧ At w' p b (runW s (bodyW (1 + h * n + (a + 1)) xs)).1 (m + xs.length) ∧ But p b w.drew w') := fun o ho => by
    have hs : Strs w.drew g o xs := by
      rcases ho with rfl | rfl
      · rw [List.length_eq_zero_iff.mp hlen]
        intro i x e; simp at e
      · exact hS1
    have := hwrite_any w.drew p b h n (a + 1) g o j xs s m (hA.up hbd) hs hne.1 hne.2 hh hn (by omega) (by omega) hm
    rw [hlen, show ((a + 1 : Nat) : Int) = (a : Int) + 1 by omega] at this
    rw [hlen]
    exact this
  unfold Cau2 at T
  obtain ⟨c0, c1, c2, c3, c4⟩ := T
  have HL := Lib.hid hlen
  clear H hA hS hS1 hir hne hk ht hlen hxs hbd
  by_cases hj0 : j = 0
  · subst hj0
    have HC0 : Hid (Calls Tryz.prog 61 #[.agg #[.pointer (some ⟨p, 0, none⟩), .int .i64 (h : Int), .int .i64 (n : Int)], .int .i64 ((a : Int) + 1), .slice (some ⟨g, 0, none⟩) 0 0] w.drew fun e w' =>
      e = .returned (.int .i64 (runW s (bodyW (1 + h * n + (a + 1)) xs)).2) ∧ At w' p b (runW s (bodyW (1 + h * n + (a + 1)) xs)).1 (m + xs.length) ∧ But p b w.drew w') := HC.out 0 (.inl rfl)
    clear HC
    go_enter Tryz.func60, Tryz.ntmps60
    go_wp2_with fail
    go_region_held3 (fun w' => w'.cell? ⟨X, 0, none⟩ = some (.pointer (some ⟨p, 0, none⟩)) ∧ w'.cell? ⟨X, 1, none⟩ = some (.int .i64 (h : Int)) ∧ w'.cell? ⟨X, 2, none⟩ = some (.int .i64 (n : Int)) ∧ w'.cell? ⟨F, 0, none⟩ = some (.int .i64 (a : Int)) ∧ w'.cell? ⟨I, 0, none⟩ = some (.slice (some ⟨g, 0, none⟩) (0 + 1) (0 + 1)))
      (first | (go_keep; done) | (change Cau2 _ p h n a (0 + 1) X F I g; with_reducible exact k4.out))
      (first | (go_at_call 61; ((with_reducible refine HC0.out.mono ?_); rintro e w2 ⟨rfl, g2, g3⟩; have k2 := Lib.hid g2; have k3 := Lib.hid g3; have k4 := Lib.hid (HZ.out w2 g3); clear g2 g3)))
    all_goals
      go_wp2
      go_ret
      exact ⟨rfl, k2.out.fine_more (by have := HL.out; omega), (But.of p b ⟨rfl, rfl, rfl, Nat.le_refl _, fun _ _ => rfl⟩ : But p b w w.drew).trans k3.out⟩
  · have hsl : ∀ W : World, (Instr.slice 49 (.slice (some ⟨g, 0, none⟩) (j + 1) (j + 1)) (some (.int .i64 1)) none none).run Tryz.prog W = .ok (.slice (some ⟨g, 1, none⟩) j j) W := fun W => by
      have h1 : (1 : Int) ≤ (j : Int) + 1 := by omega
      simp [Instr.slice, Instr.sliceBounds, Instr.sliceBound, asIntOf, go_sem, hj0, h1]
    have HC0 : Hid (Calls Tryz.prog 61 #[.agg #[.pointer (some ⟨p, 0, none⟩), .int .i64 (h : Int), .int .i64 (n : Int)], .int .i64 ((a : Int) + 1), .slice (some ⟨g, 1, none⟩) j j] w.drew fun e w' =>
      e = .returned (.int .i64 (runW s (bodyW (1 + h * n + (a + 1)) xs)).2) ∧ At w' p b (runW s (bodyW (1 + h * n + (a + 1)) xs)).1 (m + xs.length) ∧ But p b w.drew w') := HC.out 1 (.inr rfl)
    clear HC
    go_enter Tryz.func60, Tryz.ntmps60
    go_wp2_with fail
    go_region_held3 (fun w' => w'.cell? ⟨X, 0, none⟩ = some (.pointer (some ⟨p, 0, none⟩)) ∧ w'.cell? ⟨X, 1, none⟩ = some (.int .i64 (h : Int)) ∧ w'.cell? ⟨X, 2, none⟩ = some (.int .i64 (n : Int)) ∧ w'.cell? ⟨F, 0, none⟩ = some (.int .i64 (a : Int)) ∧ w'.cell? ⟨I, 0, none⟩ = some (.slice (some ⟨g, 0, none⟩) (j + 1) (j + 1)))
      (first | (go_keep; done) | (change Cau2 _ p h n a (j + 1) X F I g; with_reducible exact k4.out))
      (first | (go_at_call 61; ((with_reducible refine HC0.out.mono ?_); rintro e w2 ⟨rfl, g2, g3⟩; have k2 := Lib.hid g2; have k3 := Lib.hid g3; have k4 := Lib.hid (HZ.out w2 g3); clear g2 g3)))
    all_goals
      go_wp2
      go_ret
      exact ⟨rfl, k2.out.fine_more (by have := HL.out; omega), (But.of p b ⟨rfl, rfl, rfl, Nat.le_refl _, fun _ _ => rfl⟩ : But p b w w.drew).trans k3.out⟩
set_option maxRecDepth 100000 in
set_option maxHeartbeats 4000000 in
theorem lay3_any (H : Cau w p h n a l X F E I g C c) (hA : At w p b s m) (hh : h ≤ 1) (hn : n ≤ 4096) (ha : a ≤ 5000) (hl : 0 < nb l.length) (hm : m ≤ 900000) :
    Calls Tryz.prog 62 #[.pointer (some ⟨X, 0, none⟩), .pointer (some ⟨F, 0, none⟩), .pointer (some ⟨I, 0, none⟩)] w fun e w' =>
      e = .returned (.int .i64 (runW s [(1 + h * n + a, first l false)]).2) ∧ At w' p b (runW s [(1 + h * n + a, first l false)]).1 (m + 1000) ∧ But p b w w' := by
  obtain ⟨x, hx⟩ : ∃ x, x = first l false := ⟨_, rfl⟩
  have T := H.three
  rw [← hx] at T ⊢
  obtain ⟨k, hk⟩ : ∃ k, k = nb l.length := ⟨_, rfl⟩
  rw [← hk] at T hl
  have hb : Below w.heap.size w (w.alloc (.cells #[.string x] 9)).drew := blw (boxed _ _) 1
  have HB := Lib.hid hb
  have HZ : Hid (∀ W : World, But p b (w.alloc (.cells #[.string x] 9)).drew W → Cau3 W p h n a k X F I g x) := fun W q => by
    have := ((H.up hb).but (hA.up hb) q).three
    rwa [← hx, ← hk] at this
  have HC : Hid (Calls Tryz.prog 61 #[.agg #[.pointer (some ⟨p, 0, none⟩), .int .i64 (h : Int), .int .i64 (n : Int)], .int .i64 (a : Int), .slice (some ⟨w.heap.size, 0, none⟩) 1 1] (w.alloc (.cells #[.string x] 9)).drew fun e w' =>
      e = .returned (.int .i64 (runW s [(1 + h * n + a, x)]).2) ∧ At w' p b (runW s [(1 + h * n + a, x)]).1 (m + 1) ∧ But p b (w.alloc (.cells #[.string x] 9)).drew w') :=
    hwrite_one _ p b h n a w.heap.size 0 1 x s m (hA.up hb) ((Has.fresh w 9 #[.string x]).cell 0) (by have := hA.lt; omega) (by have := hA.lt; omega) hh hn (by omega) hm
  unfold Cau3 at T
  obtain ⟨c0, c1, c2, c3, c4, c5⟩ := T
  clear H hA hx hk hb
  go_enter Tryz.func62, Tryz.ntmps62
  go_wp2_with fail
  go_region_held3 (fun w' => w'.cell? ⟨X, 0, none⟩ = some (.pointer (some ⟨p, 0, none⟩)) ∧ w'.cell? ⟨X, 1, none⟩ = some (.int .i64 (h : Int)) ∧ w'.cell? ⟨X, 2, none⟩ = some (.int .i64 (n : Int)) ∧ w'.cell? ⟨F, 0, none⟩ = some (.int .i64 (a : Int)) ∧ w'.cell? ⟨I, 0, none⟩ = some (.slice (some ⟨g, 0, none⟩) k k) ∧ w'.cell? ⟨g, 0, none⟩ = some (.string x))
    (first | (go_keep; done) | (change Cau3 _ p h n a k X F I g x; with_reducible exact k4.out))
    (first | (go_at_call 61; ((with_reducible refine HC.out.mono ?_); rintro e w2 ⟨rfl, g2, g3⟩; have k2 := Lib.hid g2; have k3 := Lib.hid g3; have k4 := Lib.hid (HZ.out w2 g3); clear g2 g3)))
  all_goals
    go_wp2
    go_ret
    exact ⟨rfl, k2.out.fine_more (by omega), (But.of p b HB.out).trans k3.out⟩
set_option maxRecDepth 100000 in
set_option maxHeartbeats 4000000 in
theorem lay4_any (H : Cau w p h n a l X F E I g C c) (hA : At w p b s m) (hh : h ≤ 1) (hn : n ≤ 4096) (ha : a ≤ 5000) (hl : 0 < nb l.length) (hm : m ≤ 900000) :
    Calls Tryz.prog 63 #[.pointer (some ⟨X, 0, none⟩), .pointer (some ⟨F, 0, none⟩), .pointer (some ⟨C, 0, none⟩)] w fun e w' =>
      e = .returned (.int .i64 (runW s [(1 + h * n + a, first l true)]).2) ∧ At w' p b (runW s [(1 + h * n + a, first l true)]).1 (m + 1000) ∧ But p b w w' := by
  obtain ⟨x, hx⟩ : ∃ x, x = first l true := ⟨_, rfl⟩
  have T := H.four
  rw [← hx] at T ⊢
  obtain ⟨k, hk⟩ : ∃ k, k = nb l.length := ⟨_, rfl⟩
  rw [← hk] at T hl
  have hb : Below w.heap.size w (w.alloc (.cells #[.string x] 9)).drew := blw (boxed _ _) 1
  have HB := Lib.hid hb
  have HZ : Hid (∀ W : World, But p b (w.alloc (.cells #[.string x] 9)).drew W → Cau3 W p h n a k X F C c x) := fun W q => by
    have := ((H.up hb).but (hA.up hb) q).four
    rwa [← hx, ← hk] at this
  have HC : Hid (Calls Tryz.prog 61 #[.agg #[.pointer (some ⟨p, 0, none⟩), .int .i64 (h : Int), .int .i64 (n : Int)], .int .i64 (a : Int), .slice (some ⟨w.heap.size, 0, none⟩) 1 1] (w.alloc (.cells #[.string x] 9)).drew fun e w' =>
      e = .returned (.int .i64 (runW s [(1 + h * n + a, x)]).2) ∧ At w' p b (runW s [(1 + h * n + a, x)]).1 (m + 1) ∧ But p b (w.alloc (.cells #[.string x] 9)).drew w') :=
    hwrite_one _ p b h n a w.heap.size 0 1 x s m (hA.up hb) ((Has.fresh w 9 #[.string x]).cell 0) (by have := hA.lt; omega) (by have := hA.lt; omega) hh hn (by omega) hm
  unfold Cau3 at T
  obtain ⟨c0, c1, c2, c3, c4, c5⟩ := T
  clear H hA hx hk hb
  go_enter Tryz.func63, Tryz.ntmps63
  go_wp2_with fail
  go_region_held3 (fun w' => w'.cell? ⟨X, 0, none⟩ = some (.pointer (some ⟨p, 0, none⟩)) ∧ w'.cell? ⟨X, 1, none⟩ = some (.int .i64 (h : Int)) ∧ w'.cell? ⟨X, 2, none⟩ = some (.int .i64 (n : Int)) ∧ w'.cell? ⟨F, 0, none⟩ = some (.int .i64 (a : Int)) ∧ w'.cell? ⟨C, 0, none⟩ = some (.slice (some ⟨c, 0, none⟩) k k) ∧ w'.cell? ⟨c, 0, none⟩ = some (.string x))
    (first | (go_keep; done) | (change Cau3 _ p h n a k X F C c x; with_reducible exact k4.out))
    (first | (go_at_call 61; ((with_reducible refine HC.out.mono ?_); rintro e w2 ⟨rfl, g2, g3⟩; have k2 := Lib.hid g2; have k3 := Lib.hid g3; have k4 := Lib.hid (HZ.out w2 g3); clear g2 g3)))
  all_goals
    go_wp2
    go_ret
    exact ⟨rfl, k2.out.fine_more (by omega), (But.of p b HB.out).trans k3.out⟩
end
end Go.Proofs.YtjffcgimdffkoaaGreatDoor
