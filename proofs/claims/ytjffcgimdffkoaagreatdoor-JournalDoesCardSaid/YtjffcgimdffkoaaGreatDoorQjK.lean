/- The reference's journal opened, whatever its store; both journals side by side. -/
import Derived.Test.YtjffcgimdffkoaaGreatDoorQjJ
import Derived.Test.YtjffcgimdffkoaaGreatDoorQjH
import Derived.Test.YtjffcgimdffkoaaGreatDoorQsN
namespace Go.Proofs.YtjffcgimdffkoaaGreatDoor
open Go.RowKit

theorem ropen_any (w : World) (q r : Nat) (s : SS) (m : Int) (hR : Rt w q r s) (hF : Fine s m) (hm : m ≤ 800000) : Calls Tryz.prog 9 #[.pointer (some ⟨q, 0, none⟩)] w (ROpn w q r (openS s)) := by
  by_cases h0 : s.B 0 = mark0 0
  · exact ropen_half w q r 0 s m hR hF hm (by omega) h0
  · by_cases h1 : s.B 0 = mark0 1
    · exact ropen_half w q r 1 s m hR hF hm (by omega) h1
    · refine (ropen_no w q r s m hR hF h0 h1).mono ?_
      rintro e w' ⟨rfl, hb⟩
      rw [openS_none h0 h1]
      exact ⟨Turn.of _ hb, rfl, hR.up hb⟩
theorem open_zero {s S : SS} {j : JS} {E : Int} (h : openS s = (S, some j, E)) : E = 0 := by
  unfold openS at h
  split at h
  · cases h
  · split at h
    · split at h
      · injection h with _ h
        injection h with _ h
        exact h.symm
      · cases h
    · injection h with _ h
      injection h with _ h
      exact h.symm

/-- both stores -/
structure Sb (w0 w : World) (p b q r : Nat) (s s' : SS) (m : Int) : Prop where
  at_ : At w p b s m
  rt : Rt w q r s'
  bel : Below w0.heap.size w0 w
  lo : w0.heap.size ≤ p ∧ w0.heap.size ≤ b ∧ w0.heap.size ≤ q ∧ w0.heap.size ≤ r
section
variable {w0 w w' : World} {p b q r X : Nat} {s s' z : SS} {m k : Int} {cs : Array Value}
theorem St.apart (h : St w p b s) (g : Rt w q r s') : p ≠ q ∧ p ≠ r ∧ b ≠ q ∧ b ≠ r := by
  obtain ⟨cap, T, hh, _⟩ := g.head
  obtain ⟨cs, hc, _⟩ := g.row
  obtain ⟨ds, hd, _⟩ := h.row
  exact ⟨h.head.ne hh (by decide), h.head.ne hc (by decide), hd.ne hh (by decide), hd.ne hc (by decide)⟩
theorem Rt.keep {F : Nat → Prop} (h : Rt w q r s) (k : Turn F w w') (hq : ¬ F q) (hr : ¬ F r) : Rt w' q r s := by
  obtain ⟨cap, T, hh, ht⟩ := h.head
  obtain ⟨cs, hc, hl⟩ := h.row
  exact ⟨⟨cap, T, k.has hh hq, ht⟩, cs, k.has hc hr, hl⟩
theorem St.kept {F : Nat → Prop} (h : St w p b s) (k : Turn F w w') (hp : ¬ F p) (hb : ¬ F b) : St w' p b s :=
  ⟨k.has h.head hp, by obtain ⟨cs, hc, hl⟩ := h.row; exact ⟨cs, k.has hc hb, hl⟩⟩
theorem Sb.up (H : Sb w0 w p b q r s s' m) (k : Below w.heap.size w w') : Sb w0 w' p b q r s s' m := ⟨H.at_.up k, H.rt.up k, up2 H.bel k, H.lo⟩
theorem Sb.more (H : Sb w0 w p b q r s s' m) (h : m ≤ k) : Sb w0 w p b q r s s' k := ⟨⟨H.at_.st, H.at_.fine.more h⟩, H.rt, H.bel, H.lo⟩
theorem Sb.left (H : Sb w0 w p b q r s s' m) (ha : At w' p b z k) (hb : But p b w w') : Sb w0 w' p b q r z s' k :=
  ⟨ha, H.rt.but H.at_.st hb, H.bel.trans (hb.below H.bel.size H.lo.1 H.lo.2.1), H.lo⟩
theorem Sb.right (H : Sb w0 w p b q r s s' m) (ha : Rt w' q r z) (hb : But q r w w') : Sb w0 w' p b q r s z m :=
  ⟨⟨H.at_.st.but H.rt hb, H.at_.fine⟩, ha, H.bel.trans (hb.below H.bel.size H.lo.2.2.1 H.lo.2.2.2), H.lo⟩
/-- and an operation in its box -/
structure SbX (w0 w : World) (p b q r : Nat) (s s' : SS) (m : Int) (X : Nat) (cs : Array Value) : Prop where
  sb : Sb w0 w p b q r s s' m
  box : Has w X 39 cs
theorem SbX.up (H : SbX w0 w p b q r s s' m X cs) (k : Below w.heap.size w w') : SbX w0 w' p b q r s s' m X cs := ⟨H.sb.up k, H.box.up k⟩
theorem SbX.drew (H : SbX w0 w p b q r s s' m X cs) : SbX w0 w.drew p b q r s s' m X cs := H.up ⟨rfl, rfl, rfl, Nat.le_refl _, fun _ _ => rfl⟩
theorem SbX.left (H : SbX w0 w p b q r s s' m X cs) (ha : At w' p b z k) (hb : But p b w w') : SbX w0 w' p b q r z s' k X cs :=
  ⟨H.sb.left ha hb, by
    have hn := H.sb.at_.st.nbox H.box (by decide) (by decide)
    exact hb.has H.box hn.1 hn.2⟩
theorem SbX.right (H : SbX w0 w p b q r s s' m X cs) (ha : Rt w' q r z) (hb : But q r w w') : SbX w0 w' p b q r s z m X cs :=
  ⟨H.sb.right ha hb, by
    have hn := H.sb.rt.nbox H.box (by decide) (by decide)
    exact hb.has H.box hn.1 hn.2⟩
theorem SbX.write (H : SbX w0 w p b q r s s' m X cs) (hm : m ≤ 900000) (a : Int) (x : ByteArray) :
    Calls Tryz.prog 16 #[.pointer (some ⟨p, 0, none⟩), .int .i64 a, .string x] w fun e w' => e = .returned (.int .i64 (wrE s a x)) ∧ SbX w0 w' p b q r (wrS s a x) s' (m + 1) X cs := by
  refine (write_any w p b s a x m H.sb.at_.st H.sb.at_.fine (by omega)).mono ?_
  rintro e w' ⟨rfl, hs, hk⟩
  exact ⟨rfl, H.left ⟨hs, wr_fine H.sb.at_.fine⟩ hk⟩
theorem SbX.rwrite (H : SbX w0 w p b q r s s' m X cs) (hf : Fine s' k) (hk : k ≤ 900000) (a : Int) (x : ByteArray) :
    Calls Tryz.prog 18 #[.pointer (some ⟨q, 0, none⟩), .int .i64 a, .string x] w fun e w' => e = .returned (.int .i64 (wrE s' a x)) ∧ SbX w0 w' p b q r s (wrS s' a x) m X cs := by
  refine (rwrite_any w q r s' a x k H.sb.rt hf (by omega)).mono ?_
  rintro e w' ⟨rfl, ha, hb⟩
  exact ⟨rfl, H.right ha hb⟩
theorem SbX.block (H : SbX w0 w p b q r s s' m X cs) (x : ByteArray) (hx : x.size ≤ 1000000000) :
    Calls Tryz.prog 17 #[.string x] w fun e w' => e = .returned (.string (blkp x)) ∧ SbX w0 w' p b q r s s' m X cs :=
  (block_any w x hx).mono fun _ _ ⟨e, k⟩ => ⟨e, H.up k⟩
theorem SbX.restart (H : SbX w0 w p b q r s s' m X cs) :
    Calls Tryz.prog 19 #[.pointer (some ⟨p, 0, none⟩)] w fun e w' => e = .returned (.tuple #[]) ∧ SbX w0 w' p b q r (reS s) s' m X cs := by
  refine (H.sb.at_.restart rfl).mono ?_
  rintro e w' ⟨rfl, ha, hb⟩
  exact ⟨rfl, H.left ha hb⟩
theorem SbX.rrestart (H : SbX w0 w p b q r s s' m X cs) :
    Calls Tryz.prog 20 #[.pointer (some ⟨q, 0, none⟩)] w fun e w' => e = .returned (.tuple #[]) ∧ SbX w0 w' p b q r s (reS s') m X cs := by
  refine (rrestart_any w q r s' H.sb.rt).mono ?_
  rintro e w' ⟨rfl, ha, hb⟩
  exact ⟨rfl, H.right ha hb⟩
theorem SbX.fuse (H : SbX w0 w p b q r s s' m X cs) (a t : Int) (hn : a ≤ 9223372036854775807) :
    Calls Tryz.prog 14 #[.pointer (some ⟨p, 0, none⟩), .int .i64 a, .int .i64 t] w fun e w' => e = .returned (.tuple #[]) ∧ SbX w0 w' p b q r (fuS s a t) s' m X cs := by
  refine (H.sb.at_.fuse hn rfl).mono ?_
  rintro e w' ⟨rfl, ha, hb⟩
  exact ⟨rfl, H.left ha hb⟩
theorem SbX.rfuse (H : SbX w0 w p b q r s s' m X cs) (a t : Int) :
    Calls Tryz.prog 15 #[.pointer (some ⟨q, 0, none⟩), .int .i64 a, .int .i64 t] w fun e w' => e = .returned (.tuple #[]) ∧ SbX w0 w' p b q r s (fuS s' a t) m X cs := by
  refine (rfuse_any w q r s' a t H.sb.rt).mono ?_
  rintro e w' ⟨rfl, ha, hb⟩
  exact ⟨rfl, H.right ha hb⟩
end

/-- both journals on their stores -/
structure Bj (w0 w : World) (p b q r J K : Nat) (s s' : SS) (j j' : JS) (m : Int) : Prop where
  ex : ∃ R v R' v', Jat w J R p b v s j m ∧ Jr w K R' q r v' s' j' ∧ Ok s.n j ∧ Ok s'.n j' ∧
    (∀ x y, (x = J ∨ x = R ∨ x = p ∨ x = b) → (y = K ∨ y = R' ∨ y = q ∨ y = r) → x ≠ y) ∧ (∀ x, (x = J ∨ x = R ∨ x = p ∨ x = b ∨ x = K ∨ x = R' ∨ x = q ∨ x = r) → w0.heap.size ≤ x)
  bel : Below w0.heap.size w0 w
/-- and an operation in its box -/
structure Bx (w0 w : World) (p b q r J K : Nat) (s s' : SS) (j j' : JS) (m : Int) (X : Nat) (cs : Array Value) : Prop where
  ex : ∃ R v R' v', Jat w J R p b v s j m ∧ Jr w K R' q r v' s' j' ∧ Ok s.n j ∧ Ok s'.n j' ∧
    (∀ x y, (x = J ∨ x = R ∨ x = p ∨ x = b) → (y = K ∨ y = R' ∨ y = q ∨ y = r) → x ≠ y) ∧ (∀ x, (x = J ∨ x = R ∨ x = p ∨ x = b ∨ x = K ∨ x = R' ∨ x = q ∨ x = r) → w0.heap.size ≤ x) ∧
    (∀ x, (x = J ∨ x = R ∨ x = p ∨ x = b ∨ x = K ∨ x = R' ∨ x = q ∨ x = r) → x ≠ X)
  bel : Below w0.heap.size w0 w
  box : Has w X 39 cs
section
variable {w0 w w' : World} {p b q r J K X : Nat} {s s' z : SS} {j j' : JS} {m k : Int} {cs : Array Value}
theorem Jr.low {R' : Nat} {v' : Value} (H : Jr w K R' q r v' s j) : ∀ y, (y = K ∨ y = R' ∨ y = q ∨ y = r) → y < w.heap.size := by
  obtain ⟨cap, T, hh, _⟩ := H.rt.head
  obtain ⟨cs, hc, _⟩ := H.rt.row
  rintro y (rfl | rfl | rfl | rfl)
  · exact H.head.lt
  · exact H.lt
  · exact hh.lt
  · exact hc.lt
theorem Jr.keep {F : Nat → Prop} {R' : Nat} {v' : Value} (H : Jr w K R' q r v' s j) (k : Turn F w w') (hn : ∀ y, (y = K ∨ y = R' ∨ y = q ∨ y = r) → ¬ F y) : Jr w' K R' q r v' s j :=
  ⟨k.has H.head (hn K (.inl rfl)), H.recs.of fun _ hc => k.has hc (hn R' (.inr (.inl rfl))), H.rt.keep k (hn q (.inr (.inr (.inl rfl)))) (hn r (.inr (.inr (.inr rfl)))), H.ne, Nat.lt_of_lt_of_le H.lt k.size⟩
theorem Jat.kept {F : Nat → Prop} {R : Nat} {v : Value} (H : Jat w J R p b v s j m) (k : Turn F w w') (hn : ∀ x, (x = J ∨ x = R ∨ x = p ∨ x = b) → ¬ F x) : Jat w' J R p b v s j m :=
  ⟨⟨H.at_.st.kept k (hn p (.inr (.inr (.inl rfl)))) (hn b (.inr (.inr (.inr rfl)))), H.at_.fine⟩, H.jv.keep k (hn J (.inl rfl)) (hn R (.inr (.inl rfl))), H.ne⟩
theorem Jat.lows {R : Nat} {v : Value} (h : Jat w J R p b v s j m) : ∀ x, (x = J ∨ x = R ∨ x = p ∨ x = b) → x < w.heap.size := by
  have h1 := h.at_.lt
  have h2 := h.jv.lt
  have h3 := h.jv.head.lt
  rintro x (rfl | rfl | rfl | rfl)
  · exact h3
  · exact h2
  · exact h1.1
  · exact h1.2
theorem Bj.sb (H : Bj w0 w p b q r J K s s' j j' m) : Sb w0 w p b q r s s' m := by
  obtain ⟨R, v, R', v', h1, h2, h3, h4, h5, h6⟩ := H.ex
  exact ⟨h1.at_, h2.rt, H.bel, h6 p (by simp), h6 b (by simp), h6 q (by simp), h6 r (by simp)⟩
theorem Bx.sbx (H : Bx w0 w p b q r J K s s' j j' m X cs) : SbX w0 w p b q r s s' m X cs := by
  obtain ⟨R, v, R', v', h1, h2, h3, h4, h5, h6, h7⟩ := H.ex
  exact ⟨⟨h1.at_, h2.rt, H.bel, h6 p (by simp), h6 b (by simp), h6 q (by simp), h6 r (by simp)⟩, H.box⟩
theorem Bx.bj (H : Bx w0 w p b q r J K s s' j j' m X cs) : Bj w0 w p b q r J K s s' j j' m := by
  obtain ⟨R, v, R', v', h1, h2, h3, h4, h5, h6, h7⟩ := H.ex
  exact ⟨⟨R, v, R', v', h1, h2, h3, h4, h5, h6⟩, H.bel⟩
theorem Bj.up (H : Bj w0 w p b q r J K s s' j j' m) (e : Below w.heap.size w w') : Bj w0 w' p b q r J K s s' j j' m := by
  obtain ⟨R, v, R', v', h1, h2, h3, h4, h5, h6⟩ := H.ex
  exact ⟨⟨R, v, R', v', ⟨h1.at_.up e, h1.jv.up e, h1.ne⟩, h2.up e, h3, h4, h5, h6⟩, up2 H.bel e⟩
theorem Bj.more (H : Bj w0 w p b q r J K s s' j j' m) (h : m ≤ k) : Bj w0 w p b q r J K s s' j j' k := by
  obtain ⟨R, v, R', v', h1, h2, h3, h4, h5, h6⟩ := H.ex
  exact ⟨⟨R, v, R', v', ⟨⟨h1.at_.st, h1.at_.fine.more h⟩, h1.jv, h1.ne⟩, h2, h3, h4, h5, h6⟩, H.bel⟩
theorem Bx.up (H : Bx w0 w p b q r J K s s' j j' m X cs) (e : Below w.heap.size w w') : Bx w0 w' p b q r J K s s' j j' m X cs := by
  obtain ⟨R, v, R', v', h1, h2, h3, h4, h5, h6, h7⟩ := H.ex
  exact ⟨⟨R, v, R', v', ⟨h1.at_.up e, h1.jv.up e, h1.ne⟩, h2.up e, h3, h4, h5, h6, h7⟩, up2 H.bel e, H.box.up e⟩
theorem Bx.drew (H : Bx w0 w p b q r J K s s' j j' m X cs) : Bx w0 w.drew p b q r J K s s' j j' m X cs := H.up ⟨rfl, rfl, rfl, Nat.le_refl _, fun _ _ => rfl⟩
/-- a box laid anew -/
theorem Bj.opX (H : Bj w0 w p b q r J K s s' j j' m) (cs : Array Value) : Bx w0 (w.alloc (.cells cs 39)) p b q r J K s s' j j' m w.heap.size cs := by
  have al := boxed w (.cells cs 39)
  obtain ⟨R, v, R', v', h1, h2, h3, h4, h5, h6⟩ := (H.up al).ex
  obtain ⟨R0, v0, R0', v0', g1, g2, _⟩ := H.ex
  obtain ⟨R, v, R', v', h1, h2, h3, h4, h5, h6⟩ := H.ex
  have l1 := h1.lows
  have l2 := h2.low
  refine ⟨⟨R, v, R', v', ⟨h1.at_.up al, h1.jv.up al, h1.ne⟩, h2.up al, h3, h4, h5, h6, ?_⟩, up2 H.bel al, Has.fresh w 39 cs⟩
  intro x hx
  rcases hx with z | z | z | z | z | z | z | z
  · have := l1 x (.inl z); omega
  · have := l1 x (.inr (.inl z)); omega
  · have := l1 x (.inr (.inr (.inl z))); omega
  · have := l1 x (.inr (.inr (.inr z))); omega
  · have := l2 x (.inl z); omega
  · have := l2 x (.inr (.inl z)); omega
  · have := l2 x (.inr (.inr (.inl z))); omega
  · have := l2 x (.inr (.inr (.inr z))); omega
/-- behind a call of the program's journal -/
theorem Bx.left {R R1 R' : Nat} {v v1 v' : Value} {j1 : JS} (H : Bx w0 w p b q r J K s s' j j' m X cs) (h1 : Jat w J R p b v s j m) (h2 : Jr w K R' q r v' s' j')
    (h4 : Ok s'.n j') (h5 : ∀ x y, (x = J ∨ x = R ∨ x = p ∨ x = b) → (y = K ∨ y = R' ∨ y = q ∨ y = r) → x ≠ y) (h6 : ∀ x, (x = J ∨ x = R ∨ x = p ∨ x = b ∨ x = K ∨ x = R' ∨ x = q ∨ x = r) → w0.heap.size ≤ x)
    (h7 : ∀ x, (x = J ∨ x = R ∨ x = p ∨ x = b ∨ x = K ∨ x = R' ∨ x = q ∨ x = r) → x ≠ X)
    (hR : R1 = R ∨ w.heap.size ≤ R1) (hj : Jat w' J R1 p b v1 z j1 k) (hok : Ok z.n j1) (ht : Turn (fun k => k = J ∨ k = p ∨ k = b ∨ k = R) w w') : Bx w0 w' p b q r J K z s' j1 j' k X cs := by
  have hlow := h2.low
  have hXl := H.box.lt
  have hs := H.bel.size
  have hF : ∀ x, (x = J ∨ x = p ∨ x = b ∨ x = R) → (x = J ∨ x = R ∨ x = p ∨ x = b) := by
    rintro x (z | z | z | z) <;> simp [z]
  refine ⟨⟨R1, v1, R', v', hj, h2.keep ht (fun y hy z => h5 y y (hF y z) hy rfl), hok, h4, ?_, ?_, ?_⟩, H.bel.trans (ht.below hs (fun x hx => h6 x (by rcases hF x hx with z | z | z | z <;> simp [z]))), ht.has H.box (fun z => h7 X (by rcases hF X z with z | z | z | z <;> simp [z]) rfl)⟩
  · intro x y hx hy
    rcases hx with z | z | z | z
    · exact h5 x y (.inl z) hy
    · rcases hR with rfl | hR
      · exact h5 x y (.inr (.inl z)) hy
      · have := hlow y hy; omega
    · exact h5 x y (.inr (.inr (.inl z))) hy
    · exact h5 x y (.inr (.inr (.inr z))) hy
  · intro x hx
    rcases hx with z | z | z | z | z | z | z | z
    · exact h6 x (by simp [z])
    · rcases hR with rfl | hR
      · exact h6 x (by simp [z])
      · omega
    all_goals exact h6 x (by simp [z])
  · intro x hx
    rcases hx with z | z | z | z | z | z | z | z
    · exact h7 x (by simp [z])
    · rcases hR with rfl | hR
      · exact h7 x (by simp [z])
      · omega
    all_goals exact h7 x (by simp [z])
/-- behind a call of the reference's -/
theorem Bx.right {R R1 R' : Nat} {v v1 v' : Value} {j1 : JS} (H : Bx w0 w p b q r J K s s' j j' m X cs) (h1 : Jat w J R p b v s j m) (h2 : Jr w K R' q r v' s' j')
    (h3 : Ok s.n j) (h5 : ∀ x y, (x = J ∨ x = R ∨ x = p ∨ x = b) → (y = K ∨ y = R' ∨ y = q ∨ y = r) → x ≠ y) (h6 : ∀ x, (x = J ∨ x = R ∨ x = p ∨ x = b ∨ x = K ∨ x = R' ∨ x = q ∨ x = r) → w0.heap.size ≤ x)
    (h7 : ∀ x, (x = J ∨ x = R ∨ x = p ∨ x = b ∨ x = K ∨ x = R' ∨ x = q ∨ x = r) → x ≠ X)
    (hR : R1 = R' ∨ w.heap.size ≤ R1) (hj : Jr w' K R1 q r v1 z j1) (hok : Ok z.n j1) (ht : Turn (fun k => k = K ∨ k = q ∨ k = r) w w') : Bx w0 w' p b q r J K s z j j1 m X cs := by
  have hlow := h1.lows
  have hXl := H.box.lt
  have hs := H.bel.size
  have hF : ∀ x, (x = K ∨ x = q ∨ x = r) → (x = K ∨ x = R' ∨ x = q ∨ x = r) := by
    rintro x (z | z | z) <;> simp [z]
  refine ⟨⟨R, v, R1, v1, h1.kept ht (fun x hx z => h5 x x hx (hF x z) rfl), hj, h3, hok, ?_, ?_, ?_⟩, H.bel.trans (ht.below hs (fun x hx => h6 x (by rcases hx with z | z | z <;> simp [z]))), ht.has H.box (fun z => h7 X (by rcases z with z | z | z <;> simp [z]) rfl)⟩
  · intro x y hx hy
    rcases hy with z | z | z | z
    · exact h5 x y hx (.inl z)
    · rcases hR with rfl | hR
      · exact h5 x y hx (.inr (.inl z))
      · have := hlow x hx; omega
    · exact h5 x y hx (.inr (.inr (.inl z)))
    · exact h5 x y hx (.inr (.inr (.inr z)))
  · intro x hx
    rcases hx with z | z | z | z | z | z | z | z
    case inr.inr.inr.inr.inr.inl =>
      rcases hR with rfl | hR
      · exact h6 x (by simp [z])
      · omega
    all_goals exact h6 x (by simp [z])
  · intro x hx
    rcases hx with z | z | z | z | z | z | z | z
    case inr.inr.inr.inr.inr.inl =>
      rcases hR with rfl | hR
      · exact h7 x (by simp [z])
      · omega
    all_goals exact h7 x (by simp [z])
end
end Go.Proofs.YtjffcgimdffkoaaGreatDoor
