/- Two journals side by side, each on its own store with power. -/
import Derived.Test.YtjffcgimdffkoaaDoorJnSw
namespace Go.Proofs.YtjffcgimdffkoaaDoor
open Go.RowKit

theorem St.keep {F : Nat → Prop} {w w' : World} {p b : Nat} {s : SS} (h : St w p b s) (k : Turn F w w') (hp : ¬ F p) (hb : ¬ F b) : St w' p b s :=
  ⟨k.has h.head hp, by obtain ⟨cs, hc, hl⟩ := h.row; exact ⟨cs, k.has hc hb, hl⟩⟩
theorem Jat.keep {F : Nat → Prop} {w w' : World} {J R p b : Nat} {v : Value} {s : SS} {j : JS} {m : Int} (h : Jat w J R p b v s j m) (k : Turn F w w') (hn : ∀ x, (x = J ∨ x = R ∨ x = p ∨ x = b) → ¬ F x) : Jat w' J R p b v s j m :=
  ⟨⟨h.at_.st.keep k (hn p (.inr (.inr (.inl rfl)))) (hn b (.inr (.inr (.inr rfl)))), h.at_.fine⟩, h.jv.keep k (hn J (.inl rfl)) (hn R (.inr (.inl rfl))), h.ne⟩
theorem Jat.low {w : World} {J R p b : Nat} {v : Value} {s : SS} {j : JS} {m : Int} (h : Jat w J R p b v s j m) : ∀ x, (x = J ∨ x = R ∨ x = p ∨ x = b) → x < w.heap.size := by
  have h1 := h.at_.lt
  have h2 := h.jv.lt
  have h3 := h.jv.head.lt
  rintro x (rfl | rfl | rfl | rfl)
  · exact h3
  · exact h2
  · exact h1.1
  · exact h1.2
theorem But.two {w w' : World} {p b : Nat} (h : But p b w w') : Turn (fun k => k = p ∨ k = b) w w' :=
  ⟨h.os, h.tape, h.output, h.size, fun k hk r => h.block k hk (fun z => r (.inl z)) (fun z => r (.inr z))⟩

/-- what a call does to a journal where there is power, and what it answers -/
def goJ (n : Nat) (j : JS) (sn : Bool) (x : List UInt8) : JS × Int :=
  if sn = true then (if full x (frm n (1 - j.half)) (til n (1 - j.half)) then (j, 4) else (snapJ n j x, 0))
  else (if full x j.next (til n j.half) then (j, 4) else (appJ j x, 0))

theorem app_go {s : SS} {j : JS} {m : Int} (x : List UInt8) (hs : Fine s m) (P : Pow s j) :
    ∃ s', appS s j x = (s', (goJ s.n j false x).1, (goJ s.n j false x).2) ∧ Pow s' (goJ s.n j false x).1 ∧ s'.n = s.n := by
  by_cases hf : full x j.next (til s.n j.half)
  · have e : goJ s.n j false x = (j, 4) := by unfold goJ; rw [if_neg (by simp), if_pos hf]
    rw [e]
    exact ⟨s, (app_pow x hs P).1 hf, P, rfl⟩
  · have e : goJ s.n j false x = (appJ j x, 0) := by unfold goJ; rw [if_neg (by simp), if_neg hf]
    rw [e]
    exact (app_pow x hs P).2 hf
theorem snap_go {s : SS} {j : JS} {m : Int} (x : List UInt8) (hs : Fine s m) (P : Pow s j) :
    ∃ s', snapS s j x = (s', (goJ s.n j true x).1, (goJ s.n j true x).2) ∧ Pow s' (goJ s.n j true x).1 ∧ s'.n = s.n := by
  by_cases hf : full x (frm s.n (1 - j.half)) (til s.n (1 - j.half))
  · have e : goJ s.n j true x = (j, 4) := by unfold goJ; rw [if_pos rfl, if_pos hf]
    rw [e]
    exact ⟨s, (snap_pow x hs P).1 hf, P, rfl⟩
  · have e : goJ s.n j true x = (snapJ s.n j x, 0) := by unfold goJ; rw [if_pos rfl, if_neg hf]
    rw [e]
    exact (snap_pow x hs P).2 hf

/-- two journals, their stores with power, nothing of the one in the other -/
structure Gos (w0 w : World) (J p b K q c n : Nat) (j i : JS) (m k : Int) : Prop where
  ex : ∃ R v s R' v' t, Ses w0 w J R p b v s j m ∧ Pow s j ∧ s.n = n ∧ Ses w0 w K R' q c v' t i k ∧ Pow t i ∧ t.n = n ∧
    ∀ x y, (x = J ∨ x = R ∨ x = p ∨ x = b) → (y = K ∨ y = R' ∨ y = q ∨ y = c) → x ≠ y
theorem Gos.swap {w0 w : World} {J p b K q c n : Nat} {j i : JS} {m k : Int} (H : Gos w0 w J p b K q c n j i m k) : Gos w0 w K q c J p b n i j k m := by
  obtain ⟨R, v, s, R', v', t, h1, h2, h3, h4, h5, h6, h7⟩ := H.ex
  exact ⟨R', v', t, R, v, s, h4, h5, h6, h1, h2, h3, fun x y hx hy => (h7 y x hy hx).symm⟩
theorem Gos.up {w0 w w' : World} {J p b K q c n : Nat} {j i : JS} {m k : Int} (H : Gos w0 w J p b K q c n j i m k) (e : Below w.heap.size w w') : Gos w0 w' J p b K q c n j i m k := by
  obtain ⟨R, v, s, R', v', t, h1, h2, h3, h4, h5, h6, h7⟩ := H.ex
  exact ⟨R, v, s, R', v', t, h1.up e, h2, h3, h4.up e, h5, h6, h7⟩
theorem Gos.drewN {w0 w : World} {J p b K q c n : Nat} {j i : JS} {m k : Int} (H : Gos w0 w J p b K q c n j i m k) (z : Nat) : Gos w0 (w.drewN z) J p b K q c n j i m k := H.up ⟨rfl, rfl, rfl, Nat.le_refl _, fun _ _ => rfl⟩
theorem Gos.bel {w0 w : World} {J p b K q c n : Nat} {j i : JS} {m k : Int} (H : Gos w0 w J p b K q c n j i m k) : Below w0.heap.size w0 w := by
  obtain ⟨R, v, s, R', v', t, h1, h2, h3, h4, h5, h6, h7⟩ := H.ex
  exact h1.bel
theorem Gos.ok {w0 w : World} {J p b K q c n : Nat} {j i : JS} {m k : Int} (H : Gos w0 w J p b K q c n j i m k) : Ok n j ∧ n ≤ 4096 := by
  obtain ⟨R, v, s, R', v', t, h1, h2, rfl, h4, h5, h6, h7⟩ := H.ex
  exact ⟨h2.inv.ok h2.ne, h1.jat.at_.fine.hi⟩
theorem Gos.jvs {w0 w : World} {J p b K q c n : Nat} {j i : JS} {m k : Int} (H : Gos w0 w J p b K q c n j i m k) : Jvs w J p b n j := by
  obtain ⟨R, v, s, R', v', t, g1, h2, rfl, h4, h5, h6, h7⟩ := H.ex
  obtain ⟨cs, hc, _⟩ := g1.jat.at_.st.row
  exact ⟨R, v, g1.jat.jv, g1.jat.jv.head.ne g1.jat.at_.st.head (by decide), g1.jat.jv.head.ne hc (by decide), g1.jat.ne.2.1, g1.jat.ne.2.2⟩
/-- a call of the first leaves the second -/
theorem Gos.step {w0 w w' : World} {J p b K q c n R R' : Nat} {j i j' : JS} {v v' : Value} {s t s' : SS} {m k m' r : Int} {e : Ending}
    (h1 : Ses w0 w J R p b v s j m) (h4 : Ses w0 w K R' q c v' t i k) (h5 : Pow t i) (h6 : t.n = n)
    (h7 : ∀ x y, (x = J ∨ x = R ∨ x = p ∨ x = b) → (y = K ∨ y = R' ∨ y = q ∨ y = c) → x ≠ y) (hp : Pow s' j') (hn : s'.n = n)
    (g : JoD w J R p b (s', j', r) m' e w') : e = .returned (.int .i64 r) ∧ Gos w0 w' J p b K q c n j' i m' k := by
  obtain ⟨e1, ⟨R2, v2, hR, hj⟩, ht⟩ := g
  have hb := h1.bel.trans (ht.below h1.bel.size (fun k hk => by have := h1.lo; rcases hk with z | z | z | z <;> omega))
  have hlow := h4.jat.low
  refine ⟨e1, R2, v2, s', R', v', t, ⟨hj, hb, ?_⟩, hp, hn, ⟨h4.jat.keep ht ?_, hb, h4.lo⟩, h5, h6, ?_⟩
  · have := h1.lo
    have := h1.bel.size
    rcases hR with rfl | z <;> omega
  · intro x hx hF
    refine h7 x x ?_ hx rfl
    rcases hF with z | z | z | z
    · exact .inl z
    · exact .inr (.inr (.inl z))
    · exact .inr (.inr (.inr z))
    · exact .inr (.inl z)
  · intro x y hx hy
    rcases hx with z | z | z | z
    · exact h7 x y (.inl z) hy
    · rcases hR with rfl | hR
      · exact h7 x y (.inr (.inl z)) hy
      · have := hlow y hy
        omega
    · exact h7 x y (.inr (.inr (.inl z))) hy
    · exact h7 x y (.inr (.inr (.inr z))) hy
theorem Gos.app {w0 w : World} {J p b K q c n : Nat} {j i : JS} {m k : Int} (H : Gos w0 w J p b K q c n j i m k) (hT : Tb w0) (hm : m ≤ 800000) (x : ByteArray) (hx : x.size ≤ maxLen) :
    Calls Tryd.prog 11 #[.pointer (some ⟨J, 0, none⟩), .string x] w fun e w' => e = .returned (.int .i64 (goJ n j false x.data.toList).2) ∧ Gos w0 w' J p b K q c n (goJ n j false x.data.toList).1 i (m + 10000) k := by
  obtain ⟨R, v, s, R', v', t, h1, h2, rfl, h4, h5, h6, h7⟩ := H.ex
  obtain ⟨s', e1, hp, hn⟩ := app_go x.data.toList h1.jat.at_.fine h2
  have := append_any w J R p b v s m j x h1.jat hm (h2.inv.ok h2.ne) hx (hT.old h1.bel)
  rw [e1] at this
  exact this.mono fun e w' g => Gos.step h1 h4 h5 h6 h7 hp hn g
theorem Gos.snap {w0 w : World} {J p b K q c n : Nat} {j i : JS} {m k : Int} (H : Gos w0 w J p b K q c n j i m k) (hT : Tb w0) (hm : m ≤ 800000) (x : ByteArray) (hx : x.size ≤ maxLen) :
    Calls Tryd.prog 10 #[.pointer (some ⟨J, 0, none⟩), .string x] w fun e w' => e = .returned (.int .i64 (goJ n j true x.data.toList).2) ∧ Gos w0 w' J p b K q c n (goJ n j true x.data.toList).1 i (m + 10000) k := by
  obtain ⟨R, v, s, R', v', t, h1, h2, rfl, h4, h5, h6, h7⟩ := H.ex
  obtain ⟨s', e1, hp, hn⟩ := snap_go x.data.toList h1.jat.at_.fine h2
  have := snap_any w J R p b v s m j x h1.jat hm (h2.inv.ok h2.ne) hx (hT.old h1.bel)
  rw [e1] at this
  exact this.mono fun e w' g => Gos.step h1 h4 h5 h6 h7 hp hn g
/-- the second opened again: another block, the same journal -/
theorem Gos.open_ {w0 w : World} {J p b K q c n : Nat} {j i : JS} {m k : Int} (H : Gos w0 w J p b K q c n j i m k) (hT : Tb w0) (hm : k ≤ 800000) :
    Calls Tryd.prog 8 #[.pointer (some ⟨q, 0, none⟩)] w fun e w' => ∃ K', e = .returned (.tuple #[.pointer (some ⟨K', 0, none⟩), .int .i64 0]) ∧ Gos w0 w' J p b K' q c n j i m k ∧ w.heap.size ≤ K' := by
  obtain ⟨R, v, s, R', v', t, h1, h2, h3, h4, h5, h6, h7⟩ := H.ex
  have := open_any w q c t k h4.jat.at_ hm (hT.old h4.bel)
  rw [open_pow h5] at this
  refine this.mono ?_
  rintro e w' ⟨hb, _, K', R2, v2, a1, a2, he, a4, a5⟩
  have ht := But.two hb
  have hlow := h1.jat.low
  have hbel := h1.bel.trans (ht.below h1.bel.size (fun x hx => by have := h4.lo; rcases hx with z | z <;> omega))
  refine ⟨K', he, ⟨R, v, s, R2, v2, t, ⟨h1.jat.keep ht ?_, hbel, h1.lo⟩, h2, h3, ⟨⟨⟨a4.at_.st, h4.jat.at_.fine⟩, a4.jv, a4.ne⟩, hbel, ?_⟩, h5, h6, ?_⟩, a1⟩
  · intro x hx hF
    rcases hF with z | z
    · exact h7 x x hx (.inr (.inr (.inl z))) rfl
    · exact h7 x x hx (.inr (.inr (.inr z))) rfl
  · have := h4.lo
    have := h1.bel.size
    omega
  · intro x y hx hy
    have := hlow x hx
    rcases hy with z | z | z | z
    · omega
    · omega
    · exact h7 x y hx (.inr (.inr (.inl z)))
    · exact h7 x y hx (.inr (.inr (.inr z)))
/-- two stores, nothing of the one in the other -/
theorem gos_new {w0 w : World} {p b q c : Nat} {s : SS} {j : JS} {n : Nat} (h1 : Sto w0 w p b (newS n) 0) (h2 : Sto w0 w q c (newS n) 0) (h3 : ∀ x y, (x = p ∨ x = b) → (y = q ∨ y = c) → x ≠ y) (ho : openS (newS n) = (s, some j, 0)) (hn : s.n = n) (hp : Pow s j) (hT : Tb w0) :
    Calls Tryd.prog 8 #[.pointer (some ⟨p, 0, none⟩)] w fun e w1 => ∃ J, e = .returned (.tuple #[.pointer (some ⟨J, 0, none⟩), .int .i64 0]) ∧
      Hid (Calls Tryd.prog 8 #[.pointer (some ⟨q, 0, none⟩)] w1 fun e w' => ∃ K, e = .returned (.tuple #[.pointer (some ⟨K, 0, none⟩), .int .i64 0]) ∧ Gos w0 w' J p b K q c n j j 10000 10000) := by
  have := open_any w p b (newS n) 0 h1.at_ (by omega) (hT.old h1.bel)
  rw [ho] at this
  refine this.mono ?_
  rintro e w1 ⟨hb, _, J, R, v, a1, a2, he, a4, a5⟩
  have hl1 := h1.lo
  have hl2 := h2.lo
  have hs := h1.bel.size
  have ht := But.two hb
  have g1 : Ses w0 w1 J R p b v s j 10000 := ⟨a4, h1.bel.trans (hb.below hs hl1.1 hl1.2), by omega, by omega, hl1.1, hl1.2⟩
  have nq : ¬ (q = p ∨ q = b) := by
    rintro (z | z)
    · exact h3 p q (.inl rfl) (.inl rfl) z.symm
    · exact h3 b q (.inr rfl) (.inl rfl) z.symm
  have nc : ¬ (c = p ∨ c = b) := by
    rintro (z | z)
    · exact h3 p c (.inl rfl) (.inr rfl) z.symm
    · exact h3 b c (.inr rfl) (.inr rfl) z.symm
  have at2 : At w1 q c (newS n) 0 := ⟨h2.at_.st.keep ht nq nc, h2.at_.fine⟩
  refine ⟨J, he, Lib.hid ?_⟩
  have := open_any w1 q c (newS n) 0 at2 (by omega) (hT.old g1.bel)
  rw [ho] at this
  refine this.mono ?_
  rintro e w2 ⟨hb2, _, K, R2, v2, c1, c2, he2, c4, c5⟩
  have ht2 := But.two hb2
  have hlow := g1.jat.low
  have hq := h2.at_.lt
  have hne : ∀ x, (x = J ∨ x = R ∨ x = p ∨ x = b) → x ≠ q ∧ x ≠ c := by
    rintro x (rfl | rfl | rfl | rfl)
    · omega
    · omega
    · exact ⟨h3 x q (.inl rfl) (.inl rfl), h3 x c (.inl rfl) (.inr rfl)⟩
    · exact ⟨h3 x q (.inr rfl) (.inl rfl), h3 x c (.inr rfl) (.inr rfl)⟩
  have hbel := g1.bel.trans (hb2.below g1.bel.size hl2.1 hl2.2)
  have hs1 := g1.bel.size
  refine ⟨K, he2, R, v, s, R2, v2, s, ⟨g1.jat.keep ht2 ?_, hbel, g1.lo⟩, hp, hn, ⟨c4, hbel, by omega, by omega, hl2.1, hl2.2⟩, hp, hn, ?_⟩
  · intro x hx hF
    have := hne x hx
    omega
  · intro x y hx hy
    have := hlow x hx
    have := hne x hx
    omega
/-- and an operation in a box of its own -/
structure GosX (w0 w : World) (J p b K q c n : Nat) (j i : JS) (m k : Int) (X : Nat) (cs : Array Value) : Prop where
  ex : ∃ R v s R' v' t, Ses w0 w J R p b v s j m ∧ Pow s j ∧ s.n = n ∧ Ses w0 w K R' q c v' t i k ∧ Pow t i ∧ t.n = n ∧
    (∀ x y, (x = J ∨ x = R ∨ x = p ∨ x = b) → (y = K ∨ y = R' ∨ y = q ∨ y = c) → x ≠ y) ∧ (∀ y, (y = J ∨ y = R ∨ y = p ∨ y = b) → y ≠ X) ∧ (∀ y, (y = K ∨ y = R' ∨ y = q ∨ y = c) → y ≠ X)
  box : Has w X 39 cs
  lo : w0.heap.size ≤ X
theorem GosX.gos {w0 w : World} {J p b K q c n X : Nat} {j i : JS} {m k : Int} {cs : Array Value} (H : GosX w0 w J p b K q c n j i m k X cs) : Gos w0 w J p b K q c n j i m k := by
  obtain ⟨R, v, s, R', v', t, h1, h2, h3, h4, h5, h6, h7, _⟩ := H.ex
  exact ⟨R, v, s, R', v', t, h1, h2, h3, h4, h5, h6, h7⟩
theorem GosX.swap {w0 w : World} {J p b K q c n X : Nat} {j i : JS} {m k : Int} {cs : Array Value} (H : GosX w0 w J p b K q c n j i m k X cs) : GosX w0 w K q c J p b n i j k m X cs := by
  obtain ⟨R, v, s, R', v', t, h1, h2, h3, h4, h5, h6, h7, h8, h9⟩ := H.ex
  exact ⟨⟨R', v', t, R, v, s, h4, h5, h6, h1, h2, h3, fun x y hx hy => (h7 y x hy hx).symm, h9, h8⟩, H.box, H.lo⟩
/-- a box laid anew -/
theorem Gos.opX {w0 w : World} {J p b K q c n : Nat} {j i : JS} {m k : Int} (H : Gos w0 w J p b K q c n j i m k) (cs : Array Value) : GosX w0 (w.alloc (.cells cs 39)) J p b K q c n j i m k w.heap.size cs := by
  obtain ⟨R, v, s, R', v', t, h1, h2, h3, h4, h5, h6, h7⟩ := H.ex
  have al := boxed w (.cells cs 39)
  have l1 := h1.jat.low
  have l2 := h4.jat.low
  exact ⟨⟨R, v, s, R', v', t, h1.up al, h2, h3, h4.up al, h5, h6, h7, fun y hy => by have := l1 y hy; omega, fun y hy => by have := l2 y hy; omega⟩, Has.fresh w 39 cs, h1.bel.size⟩
theorem GosX.step {w0 w w' : World} {J p b K q c n R R' X : Nat} {j i j' : JS} {v v' : Value} {s t s' : SS} {m k m' r : Int} {e : Ending} {cs : Array Value}
    (h1 : Ses w0 w J R p b v s j m) (h4 : Ses w0 w K R' q c v' t i k) (h5 : Pow t i) (h6 : t.n = n)
    (h7 : ∀ x y, (x = J ∨ x = R ∨ x = p ∨ x = b) → (y = K ∨ y = R' ∨ y = q ∨ y = c) → x ≠ y) (h8 : ∀ y, (y = J ∨ y = R ∨ y = p ∨ y = b) → y ≠ X) (h9 : ∀ y, (y = K ∨ y = R' ∨ y = q ∨ y = c) → y ≠ X) (hX : Has w X 39 cs) (hlo : w0.heap.size ≤ X) (hp : Pow s' j') (hn : s'.n = n)
    (g : JoD w J R p b (s', j', r) m' e w') : e = .returned (.int .i64 r) ∧ GosX w0 w' J p b K q c n j' i m' k X cs := by
  obtain ⟨e1, ⟨R2, v2, hR, hj⟩, ht⟩ := g
  have hb := h1.bel.trans (ht.below h1.bel.size (fun k hk => by have := h1.lo; rcases hk with z | z | z | z <;> omega))
  have hlow := h4.jat.low
  have hXl := hX.lt
  have hFX : ∀ x, (x = J ∨ x = p ∨ x = b ∨ x = R) → (x = J ∨ x = R ∨ x = p ∨ x = b) := by
    rintro x (z | z | z | z)
    · exact .inl z
    · exact .inr (.inr (.inl z))
    · exact .inr (.inr (.inr z))
    · exact .inr (.inl z)
  refine ⟨e1, ⟨R2, v2, s', R', v', t, ⟨hj, hb, ?_⟩, hp, hn, ⟨h4.jat.keep ht (fun x hx hF => h7 x x (hFX x hF) hx rfl), hb, h4.lo⟩, h5, h6, ?_, ?_, h9⟩, ht.has hX (fun hF => h8 X (hFX X hF) rfl), hlo⟩
  · have := h1.lo
    have := h1.bel.size
    rcases hR with rfl | z <;> omega
  · intro x y hx hy
    rcases hx with z | z | z | z
    · exact h7 x y (.inl z) hy
    · rcases hR with rfl | hR
      · exact h7 x y (.inr (.inl z)) hy
      · have := hlow y hy
        omega
    · exact h7 x y (.inr (.inr (.inl z))) hy
    · exact h7 x y (.inr (.inr (.inr z))) hy
  · intro y hy
    rcases hy with z | z | z | z
    · exact h8 y (.inl z)
    · rcases hR with rfl | hR
      · exact h8 y (.inr (.inl z))
      · omega
    · exact h8 y (.inr (.inr (.inl z)))
    · exact h8 y (.inr (.inr (.inr z)))
theorem GosX.app {w0 w : World} {J p b K q c n X : Nat} {j i : JS} {m k : Int} {cs : Array Value} (H : GosX w0 w J p b K q c n j i m k X cs) (hT : Tb w0) (hm : m ≤ 800000) (x : ByteArray) (hx : x.size ≤ maxLen) :
    Calls Tryd.prog 11 #[.pointer (some ⟨J, 0, none⟩), .string x] w fun e w' => e = .returned (.int .i64 (goJ n j false x.data.toList).2) ∧ GosX w0 w' J p b K q c n (goJ n j false x.data.toList).1 i (m + 10000) k X cs := by
  obtain ⟨R, v, s, R', v', t, h1, h2, rfl, h4, h5, h6, h7, h8, h9⟩ := H.ex
  obtain ⟨s', e1, hp, hn⟩ := app_go x.data.toList h1.jat.at_.fine h2
  have := append_any w J R p b v s m j x h1.jat hm (h2.inv.ok h2.ne) hx (hT.old h1.bel)
  rw [e1] at this
  exact this.mono fun e w' g => GosX.step h1 h4 h5 h6 h7 h8 h9 H.box H.lo hp hn g
theorem GosX.snap {w0 w : World} {J p b K q c n X : Nat} {j i : JS} {m k : Int} {cs : Array Value} (H : GosX w0 w J p b K q c n j i m k X cs) (hT : Tb w0) (hm : m ≤ 800000) (x : ByteArray) (hx : x.size ≤ maxLen) :
    Calls Tryd.prog 10 #[.pointer (some ⟨J, 0, none⟩), .string x] w fun e w' => e = .returned (.int .i64 (goJ n j true x.data.toList).2) ∧ GosX w0 w' J p b K q c n (goJ n j true x.data.toList).1 i (m + 10000) k X cs := by
  obtain ⟨R, v, s, R', v', t, h1, h2, rfl, h4, h5, h6, h7, h8, h9⟩ := H.ex
  obtain ⟨s', e1, hp, hn⟩ := snap_go x.data.toList h1.jat.at_.fine h2
  have := snap_any w J R p b v s m j x h1.jat hm (h2.inv.ok h2.ne) hx (hT.old h1.bel)
  rw [e1] at this
  exact this.mono fun e w' g => GosX.step h1 h4 h5 h6 h7 h8 h9 H.box H.lo hp hn g
theorem GosX.up {w0 w w' : World} {J p b K q c n X : Nat} {j i : JS} {m k : Int} {cs : Array Value} (H : GosX w0 w J p b K q c n j i m k X cs) (e : Below w.heap.size w w') : GosX w0 w' J p b K q c n j i m k X cs := by
  obtain ⟨R, v, s, R', v', t, h1, h2, h3, h4, h5, h6, h7, h8, h9⟩ := H.ex
  exact ⟨⟨R, v, s, R', v', t, h1.up e, h2, h3, h4.up e, h5, h6, h7, h8, h9⟩, H.box.up e, H.lo⟩
theorem GosX.drew {w0 w : World} {J p b K q c n X : Nat} {j i : JS} {m k : Int} {cs : Array Value} (H : GosX w0 w J p b K q c n j i m k X cs) : GosX w0 w.drew J p b K q c n j i m k X cs := H.up ⟨rfl, rfl, rfl, Nat.le_refl _, fun _ _ => rfl⟩
theorem GosX.put {w0 w : World} {J p b K q c n X : Nat} {j i : JS} {m k : Int} {cs : Array Value} (H : GosX w0 w J p b K q c n j i m k X cs) (z : Nat) (u : Value) : GosX w0 (w.setCell ⟨X, z, none⟩ u) J p b K q c n j i m k X (cs.setIfInBounds z u) := by
  obtain ⟨R, v, s, R', v', t, h1, h2, h3, h4, h5, h6, h7, h8, h9⟩ := H.ex
  exact ⟨⟨R, v, s, R', v', t, h1.put H.box (by decide) (h8 R (.inr (.inl rfl))) H.lo, h2, h3, h4.put H.box (by decide) (h9 R' (.inr (.inl rfl))) H.lo, h5, h6, h7, h8, h9⟩, H.box.put z u, H.lo⟩
/-- all four cells -/
theorem GosX.put4 {w0 w : World} {J p b K q c n X : Nat} {j i : JS} {m k : Int} {o0 o1 o2 o3 : Value} (H : GosX w0 w J p b K q c n j i m k X #[o0, o1, o2, o3]) (u0 u1 u2 u3 : Value) :
    GosX w0 ((((w.setCell ⟨X, 0, none⟩ u0).setCell ⟨X, 1, none⟩ u1).setCell ⟨X, 2, none⟩ u2).setCell ⟨X, 3, none⟩ u3) J p b K q c n j i m k X #[u0, u1, u2, u3] := (((H.put 0 u0).put 1 u1).put 2 u2).put 3 u3
/-- the second opened again, the box beside -/
theorem GosX.open_ {w0 w : World} {J p b K q c n X : Nat} {j i : JS} {m k : Int} {cs : Array Value} (H : GosX w0 w J p b K q c n j i m k X cs) (hT : Tb w0) (hm : k ≤ 800000) :
    Calls Tryd.prog 8 #[.pointer (some ⟨q, 0, none⟩)] w fun e w' => ∃ K', e = .returned (.tuple #[.pointer (some ⟨K', 0, none⟩), .int .i64 0]) ∧ GosX w0 w' J p b K' q c n j i m k X cs := by
  obtain ⟨R, v, s, R', v', t, h1, h2, h3, h4, h5, h6, h7, h8, h9⟩ := H.ex
  have := open_any w q c t k h4.jat.at_ hm (hT.old h4.bel)
  rw [open_pow h5] at this
  refine this.mono ?_
  rintro e w' ⟨hb, _, K', R2, v2, a1, a2, he, a4, a5⟩
  have ht := But.two hb
  have hlow := h1.jat.low
  have hXl := H.box.lt
  have hbel := h1.bel.trans (ht.below h1.bel.size (fun x hx => by have := h4.lo; rcases hx with z | z <;> omega))
  refine ⟨K', he, ⟨R, v, s, R2, v2, t, ⟨h1.jat.keep ht ?_, hbel, h1.lo⟩, h2, h3, ⟨⟨⟨a4.at_.st, h4.jat.at_.fine⟩, a4.jv, a4.ne⟩, hbel, ?_⟩, h5, h6, ?_, h8, ?_⟩, ht.has H.box ?_, H.lo⟩
  · intro x hx hF
    rcases hF with z | z
    · exact h7 x x hx (.inr (.inr (.inl z))) rfl
    · exact h7 x x hx (.inr (.inr (.inr z))) rfl
  · have := h4.lo
    have := h1.bel.size
    omega
  · intro x y hx hy
    have := hlow x hx
    rcases hy with z | z | z | z
    · omega
    · omega
    · exact h7 x y hx (.inr (.inr (.inl z)))
    · exact h7 x y hx (.inr (.inr (.inr z)))
  · intro y hy
    rcases hy with z | z | z | z
    · omega
    · omega
    · exact h9 y (.inr (.inr (.inl z)))
    · exact h9 y (.inr (.inr (.inr z)))
  · rintro (z | z)
    · exact h9 X (.inr (.inr (.inl z))) rfl
    · exact h9 X (.inr (.inr (.inr z))) rfl
theorem GosX.more {w0 w : World} {J p b K q c n X : Nat} {j i : JS} {m k m' k' : Int} {cs : Array Value} (H : GosX w0 w J p b K q c n j i m k X cs) (h : m ≤ m') (h' : k ≤ k') : GosX w0 w J p b K q c n j i m' k' X cs := by
  obtain ⟨R, v, s, R', v', t, h1, h2, h3, h4, h5, h6, h7, h8, h9⟩ := H.ex
  exact ⟨⟨R, v, s, R', v', t, ⟨⟨⟨h1.jat.at_.st, h1.jat.at_.fine.more h⟩, h1.jat.jv, h1.jat.ne⟩, h1.bel, h1.lo⟩, h2, h3, ⟨⟨⟨h4.jat.at_.st, h4.jat.at_.fine.more h'⟩, h4.jat.jv, h4.jat.ne⟩, h4.bel, h4.lo⟩, h5, h6, h7, h8, h9⟩, H.box, H.lo⟩
def Str3 (w : World) (X : Nat) (y : ByteArray) : Prop := w.cell? ⟨X, 3, none⟩ = some (.string y)
theorem GosX.str3 {w0 w : World} {J p b K q c n X : Nat} {j i : JS} {m k : Int} {o0 o1 o2 : Value} {y : ByteArray} (H : GosX w0 w J p b K q c n j i m k X #[o0, o1, o2, .string y]) : Str3 w X y := H.box.cell 3
end Go.Proofs.YtjffcgimdffkoaaDoor
