/- Both stores, side by side: an operation of both; are they the same? -/
import Derived.Test.YtdlhenpocdlomaaStRn
import Derived.Test.YtdlhenpocdlomaaStRw
namespace Go.Proofs.Ytdlhenpocdlomaa
open Go.RowKit

/-- an operation -/
structure OpD where
  d : Int
  a : Int
  n : Int
  t : Int
  x : ByteArray
  f : Bool
def OpD.cells (o : OpD) : Array Value := opv o.d o.a o.n o.t o.x o.f
def stepS (s : SS) (o : OpD) : SS := if o.d = 0 then wrS s o.a (blk o.x o.f) else if o.d = 1 then fuS s o.n o.t else if o.d = 2 then reS s else s

/-- both stores, and an operation's cells, from block B on -/
structure Duo (w0 : World) (B p b q r bx : Nat) (o : OpD) (s s' : SS) (m : Int) (w : World) : Prop where
  at_ : At w p b s m
  rt : Rt w q r s'
  op : Has w bx 32 o.cells
  bel : Below B w0 w
  lp : B ≤ p
  lb : B ≤ b
  lq : B ≤ q
  lr : B ≤ r
  lx : B ≤ w.heap.size
section
variable {w0 w w' : World} {B p b q r bx : Nat} {o : OpD} {s s' z : SS} {m k : Int}
theorem Duo.up (h : Duo w0 B p b q r bx o s s' m w) (hb : Below w.heap.size w w') : Duo w0 B p b q r bx o s s' m w' :=
  ⟨h.at_.up hb, h.rt.up hb, h.op.up hb, h.bel.trans (hb.mono h.lx), h.lp, h.lb, h.lq, h.lr, Nat.le_trans h.lx hb.size⟩
theorem Duo.drew (h : Duo w0 B p b q r bx o s s' m w) : Duo w0 B p b q r bx o s s' m w.drew := h.up ⟨rfl, rfl, rfl, Nat.le_refl _, fun _ _ => rfl⟩
theorem Duo.drewN (h : Duo w0 B p b q r bx o s s' m w) (n : Nat) : Duo w0 B p b q r bx o s s' m (w.drewN n) := h.up ⟨rfl, rfl, rfl, Nat.le_refl _, fun _ _ => rfl⟩
theorem Duo.left (h : Duo w0 B p b q r bx o s s' m w) (ha : At w' p b z k) (hb : But p b w w') : Duo w0 B p b q r bx o z s' k w' :=
  ⟨ha, h.rt.but h.at_.st hb, by
    obtain ⟨cs, hc, _⟩ := h.at_.st.row
    exact hb.has h.op (h.op.ne h.at_.st.head (by decide)) (h.op.ne hc (by decide)), h.bel.trans (hb.below h.lx h.lp h.lb), h.lp, h.lb, h.lq, h.lr, Nat.le_trans h.lx hb.size⟩
theorem Duo.right (h : Duo w0 B p b q r bx o s s' m w) (ha : Rt w' q r z) (hb : But q r w w') : Duo w0 B p b q r bx o s z m w' :=
  ⟨⟨h.at_.st.but h.rt hb, h.at_.fine⟩, ha, by
    obtain ⟨cap, T, hh, _⟩ := h.rt.head
    obtain ⟨cs, hc, _⟩ := h.rt.row
    exact hb.has h.op (h.op.ne hh (by decide)) (h.op.ne hc (by decide)), h.bel.trans (hb.below h.lx h.lq h.lr), h.lp, h.lb, h.lq, h.lr, Nat.le_trans h.lx hb.size⟩
end
def Six (bx : Nat) (o : OpD) (w : World) : Prop :=
  w.cell? ⟨bx, 0, none⟩ = some (.int .i64 o.d) ∧ w.cell? ⟨bx, 1, none⟩ = some (.int .i64 o.a) ∧ w.cell? ⟨bx, 2, none⟩ = some (.int .i64 o.n) ∧ w.cell? ⟨bx, 3, none⟩ = some (.int .i64 o.t) ∧ w.cell? ⟨bx, 4, none⟩ = some (.string o.x) ∧ w.cell? ⟨bx, 5, none⟩ = some (.bool o.f)
theorem Has.six {w : World} {bx : Nat} {o : OpD} (h : Has w bx 32 o.cells) : Six bx o w := ⟨h.cell 0, h.cell 1, h.cell 2, h.cell 3, h.cell 4, h.cell 5⟩
theorem Duo.six {w0 w : World} {B p b q r bx : Nat} {o : OpD} {s s' : SS} {m : Int} (h : Duo w0 B p b q r bx o s s' m w) : Six bx o w := h.op.six

theorem Duo.write {w0 w : World} {B p b q r bx : Nat} {o : OpD} {s s' : SS} {m : Int} (h : Duo w0 B p b q r bx o s s' m w) (hm : m ≤ 1000) (x : ByteArray) :
    Calls Try.prog 10 #[.pointer (some ⟨p, 0, none⟩), .int .i64 o.a, .string x] w fun e w' => e = .returned (.int .i64 (wrE s o.a x)) ∧ Duo w0 B p b q r bx o (wrS s o.a x) s' (m + 1) w' := by
  refine (h.at_.write hm ⟨rfl, rfl⟩).mono ?_
  rintro e w' ⟨rfl, ha, hb⟩
  exact ⟨rfl, h.left ha hb⟩
theorem Duo.rwrite {w0 w : World} {B p b q r bx : Nat} {o : OpD} {s s' : SS} {m k : Int} (h : Duo w0 B p b q r bx o s s' m w) (hf : Fine s' k) (hk : k ≤ 1000) (x : ByteArray) :
    Calls Try.prog 18 #[.pointer (some ⟨q, 0, none⟩), .int .i64 o.a, .string x] w fun e w' => e = .returned (.int .i64 (wrE s' o.a x)) ∧ Duo w0 B p b q r bx o s (wrS s' o.a x) m w' := by
  refine (rwrite_any w q r s' o.a x k h.rt hf hk).mono ?_
  rintro e w' ⟨rfl, ha, hb⟩
  exact ⟨rfl, h.right ha hb⟩
theorem Duo.block {w0 w : World} {B p b q r bx : Nat} {o : OpD} {s s' : SS} {m : Int} (h : Duo w0 B p b q r bx o s s' m w) :
    Calls Try.prog 11 #[.agg #[.int .i64 o.d, .int .i64 o.a, .int .i64 o.n, .int .i64 o.t, .string o.x, .bool o.f]] w fun e w' => e = .returned (.string (blk o.x o.f)) ∧ Duo w0 B p b q r bx o s s' m w' := by
  refine (block_any w o.d o.a o.n o.t o.x o.f).mono ?_
  rintro e w' ⟨rfl, hb⟩
  exact ⟨rfl, h.up hb⟩

set_option maxRecDepth 100000 in
set_option maxHeartbeats 4000000 in
theorem do_write (w : World) (B p b q r : Nat) (s : SS) (m : Int) (o : OpD) (hA : At w p b s m) (hR : Rt w q r s) (hm : m ≤ 999) (hd : o.d = 0) (lp : B ≤ p) (lb : B ≤ b) (lq : B ≤ q) (lr : B ≤ r) (lx : B ≤ w.heap.size) :
    Calls Try.prog 8 #[.pointer (some ⟨p, 0, none⟩), .pointer (some ⟨q, 0, none⟩), .agg o.cells] w fun e w' => e = .returned (.bool true) ∧ Duo w B p b q r w.heap.size o (wrS s o.a (blk o.x o.f)) (wrS s o.a (blk o.x o.f)) (m + 1) w' := by
  have H0 : Duo w B p b q r w.heap.size o s s m (w.alloc (.cells o.cells 32)) :=
    ⟨hA.up (boxed _ _), hR.up (boxed _ _), Has.fresh w 32 _, (Below.refl _ _).alloc lx _, lp, lb, lq, lr, by simp; omega⟩
  have HF := Lib.hid hA.fine
  obtain ⟨W0, hW⟩ : ∃ W0, W0 = w.alloc (.cells #[.int .i64 o.d, .int .i64 o.a, .int .i64 o.n, .int .i64 o.t, .string o.x, .bool o.f] 32) := ⟨_, rfl⟩
  rw [show w.alloc (.cells o.cells 32) = W0 from hW.symm] at H0
  obtain ⟨bx, hx⟩ : ∃ bx, bx = w.heap.size := ⟨_, rfl⟩
  rw [← hx] at H0 ⊢
  have HH := Lib.hid H0
  have HW := Lib.hid hW
  have HX := Lib.hid hx
  have hd1 : (o.d == 0) = true := by rw [hd]; rfl
  clear H0 hA hR lp lb lq lr lx hW hx hd
  unfold OpD.cells opv
  go_enter Try.func8, Try.ntmps8
  go_wp2_with fail
  rw [← HW.out, ← HX.out]
  have HS := HH.out.six
  unfold Six at HS
  obtain ⟨e0, e1, e2, e3, e4, e5⟩ := HS
  go_region_held3 (fun w' => w'.cell? ⟨bx, 0, none⟩ = some (.int .i64 o.d) ∧ w'.cell? ⟨bx, 1, none⟩ = some (.int .i64 o.a) ∧ w'.cell? ⟨bx, 2, none⟩ = some (.int .i64 o.n) ∧ w'.cell? ⟨bx, 3, none⟩ = some (.int .i64 o.t) ∧ w'.cell? ⟨bx, 4, none⟩ = some (.string o.x) ∧ w'.cell? ⟨bx, 5, none⟩ = some (.bool o.f))
    ((change Six bx o _; with_reducible (first | exact HH.out.drew.six | exact k1.out.six | exact k2.out.six | exact k3.out.six | exact k4.out.six)))
    (first | (go_at_call 11; ((with_reducible refine HH.out.drew.block.mono ?_); rintro e w1 ⟨rfl, g1⟩; have k1 := Lib.hid g1; clear g1)) | (go_at_call 10; ((with_reducible refine (k1.out.write (by omega) _).mono ?_); rintro e w2 ⟨rfl, g2⟩; have k2 := Lib.hid g2; clear g2)) | (go_at_call 11; ((with_reducible refine k2.out.block.mono ?_); rintro e w3 ⟨rfl, g3⟩; have k3 := Lib.hid g3; clear g3)) | (go_at_call 18; ((with_reducible refine (k3.out.rwrite HF.out (by omega) _).mono ?_); rintro e w4 ⟨rfl, g4⟩; have k4 := Lib.hid g4; clear g4)))
  all_goals
    go_wp2_with fail
    go_ret
    exact ⟨rfl, k4.out⟩
theorem Duo.more {w0 w : World} {B p b q r bx : Nat} {o : OpD} {s s' : SS} {m k : Int} (h : Duo w0 B p b q r bx o s s' m w) (e : m ≤ k) : Duo w0 B p b q r bx o s s' k w :=
  ⟨⟨h.at_.st, h.at_.fine.more e⟩, h.rt, h.op, h.bel, h.lp, h.lb, h.lq, h.lr, h.lx⟩
theorem Duo.restart {w0 w : World} {B p b q r bx : Nat} {o : OpD} {s s' : SS} {m : Int} (h : Duo w0 B p b q r bx o s s' m w) :
    Calls Try.prog 13 #[.pointer (some ⟨p, 0, none⟩)] w fun e w' => e = .returned (.tuple #[]) ∧ Duo w0 B p b q r bx o (reS s) s' m w' := by
  refine (h.at_.restart rfl).mono ?_
  rintro e w' ⟨rfl, ha, hb⟩
  exact ⟨rfl, h.left ha hb⟩
theorem Duo.rrestart {w0 w : World} {B p b q r bx : Nat} {o : OpD} {s s' : SS} {m : Int} (h : Duo w0 B p b q r bx o s s' m w) :
    Calls Try.prog 20 #[.pointer (some ⟨q, 0, none⟩)] w fun e w' => e = .returned (.tuple #[]) ∧ Duo w0 B p b q r bx o s (reS s') m w' := by
  refine (rrestart_any w q r s' h.rt).mono ?_
  rintro e w' ⟨rfl, ha, hb⟩
  exact ⟨rfl, h.right ha hb⟩
theorem Duo.fuse {w0 w : World} {B p b q r bx : Nat} {o : OpD} {s s' : SS} {m : Int} (h : Duo w0 B p b q r bx o s s' m w) (hn : o.n ≤ 9223372036854775807) :
    Calls Try.prog 12 #[.pointer (some ⟨p, 0, none⟩), .int .i64 o.n, .int .i64 o.t] w fun e w' => e = .returned (.tuple #[]) ∧ Duo w0 B p b q r bx o (fuS s o.n o.t) s' m w' := by
  refine (h.at_.fuse hn rfl).mono ?_
  rintro e w' ⟨rfl, ha, hb⟩
  exact ⟨rfl, h.left ha hb⟩
theorem Duo.rfuse {w0 w : World} {B p b q r bx : Nat} {o : OpD} {s s' : SS} {m : Int} (h : Duo w0 B p b q r bx o s s' m w) :
    Calls Try.prog 19 #[.pointer (some ⟨q, 0, none⟩), .int .i64 o.n, .int .i64 o.t] w fun e w' => e = .returned (.tuple #[]) ∧ Duo w0 B p b q r bx o s (fuS s' o.n o.t) m w' := by
  refine (rfuse_any w q r s' o.n o.t h.rt).mono ?_
  rintro e w' ⟨rfl, ha, hb⟩
  exact ⟨rfl, h.right ha hb⟩

set_option maxRecDepth 100000 in
set_option maxHeartbeats 4000000 in
theorem do_restart (w : World) (B p b q r : Nat) (s : SS) (m : Int) (o : OpD) (hA : At w p b s m) (hR : Rt w q r s) (hd : o.d = 2) (lp : B ≤ p) (lb : B ≤ b) (lq : B ≤ q) (lr : B ≤ r) (lx : B ≤ w.heap.size) :
    Calls Try.prog 8 #[.pointer (some ⟨p, 0, none⟩), .pointer (some ⟨q, 0, none⟩), .agg o.cells] w fun e w' => e = .returned (.bool true) ∧ Duo w B p b q r w.heap.size o (reS s) (reS s) m w' := by
  have H0 : Duo w B p b q r w.heap.size o s s m (w.alloc (.cells o.cells 32)) :=
    ⟨hA.up (boxed _ _), hR.up (boxed _ _), Has.fresh w 32 _, (Below.refl _ _).alloc lx _, lp, lb, lq, lr, by simp; omega⟩
  have HF := Lib.hid hA.fine
  obtain ⟨W0, hW⟩ : ∃ W0, W0 = w.alloc (.cells #[.int .i64 o.d, .int .i64 o.a, .int .i64 o.n, .int .i64 o.t, .string o.x, .bool o.f] 32) := ⟨_, rfl⟩
  rw [show w.alloc (.cells o.cells 32) = W0 from hW.symm] at H0
  obtain ⟨bx, hx⟩ : ∃ bx, bx = w.heap.size := ⟨_, rfl⟩
  rw [← hx] at H0 ⊢
  have HH := Lib.hid H0
  have HW := Lib.hid hW
  have HX := Lib.hid hx
  have hd1 : (o.d == 0) = false := by rw [hd]; rfl
  have hd2 : (o.d == 1) = false := by rw [hd]; rfl
  have hd3 : (o.d == 2) = true := by rw [hd]; rfl
  clear H0 hA hR lp lb lq lr lx hW hx hd
  unfold OpD.cells opv
  go_enter Try.func8, Try.ntmps8
  go_wp2_with fail
  rw [← HW.out, ← HX.out]
  refine HH.out.restart.mono ?_
  rintro e w1 ⟨rfl, g1⟩
  have K1 := Lib.hid g1
  clear g1
  go_wp2_with fail
  refine K1.out.rrestart.mono ?_
  rintro e w2 ⟨rfl, g2⟩
  have K2 := Lib.hid g2
  clear g2
  go_wp2_with fail
  go_ret
  exact ⟨rfl, K2.out⟩

set_option maxRecDepth 100000 in
set_option maxHeartbeats 4000000 in
theorem do_fuse (w : World) (B p b q r : Nat) (s : SS) (m : Int) (o : OpD) (hA : At w p b s m) (hR : Rt w q r s) (hn : o.n ≤ 9223372036854775807) (hd : o.d = 1) (lp : B ≤ p) (lb : B ≤ b) (lq : B ≤ q) (lr : B ≤ r) (lx : B ≤ w.heap.size) :
    Calls Try.prog 8 #[.pointer (some ⟨p, 0, none⟩), .pointer (some ⟨q, 0, none⟩), .agg o.cells] w fun e w' => e = .returned (.bool true) ∧ Duo w B p b q r w.heap.size o (fuS s o.n o.t) (fuS s o.n o.t) m w' := by
  have H0 : Duo w B p b q r w.heap.size o s s m (w.alloc (.cells o.cells 32)) :=
    ⟨hA.up (boxed _ _), hR.up (boxed _ _), Has.fresh w 32 _, (Below.refl _ _).alloc lx _, lp, lb, lq, lr, by simp; omega⟩
  have HF := Lib.hid hA.fine
  obtain ⟨W0, hW⟩ : ∃ W0, W0 = w.alloc (.cells #[.int .i64 o.d, .int .i64 o.a, .int .i64 o.n, .int .i64 o.t, .string o.x, .bool o.f] 32) := ⟨_, rfl⟩
  rw [show w.alloc (.cells o.cells 32) = W0 from hW.symm] at H0
  obtain ⟨bx, hx⟩ : ∃ bx, bx = w.heap.size := ⟨_, rfl⟩
  rw [← hx] at H0 ⊢
  have HH := Lib.hid H0
  have HW := Lib.hid hW
  have HX := Lib.hid hx
  have HN := Lib.hid hn
  have hd1 : (o.d == 0) = false := by rw [hd]; rfl
  have hd2 : (o.d == 1) = true := by rw [hd]; rfl
  clear H0 hA hR lp lb lq lr lx hW hx hd hn
  unfold OpD.cells opv
  go_enter Try.func8, Try.ntmps8
  go_wp2_with fail
  rw [← HW.out, ← HX.out]
  refine (HH.out.fuse HN.out).mono ?_
  rintro e w1 ⟨rfl, g1⟩
  have K1 := Lib.hid g1
  have HS := K1.out.six
  unfold Six at HS
  obtain ⟨e0, e1, e2, e3, e4, e5⟩ := HS
  clear g1
  go_wp2_with fail
  refine K1.out.rfuse.mono ?_
  rintro e w2 ⟨rfl, g2⟩
  have K2 := Lib.hid g2
  clear g2 e0 e1 e2 e3 e4 e5
  go_wp2_with fail
  go_ret
  exact ⟨rfl, K2.out⟩

set_option maxRecDepth 100000 in
set_option maxHeartbeats 4000000 in
theorem do_read (w : World) (B p b q r : Nat) (s : SS) (m : Int) (o : OpD) (hA : At w p b s m) (hR : Rt w q r s) (h0 : o.d ≠ 0) (h1 : o.d ≠ 1) (h2 : o.d ≠ 2) (i0 : 0 ≤ o.a) (i1 : o.a < s.n) (lp : B ≤ p) (lb : B ≤ b) (lq : B ≤ q) (lr : B ≤ r) (lx : B ≤ w.heap.size) :
    Calls Try.prog 8 #[.pointer (some ⟨p, 0, none⟩), .pointer (some ⟨q, 0, none⟩), .agg o.cells] w fun e w' => e = .returned (.bool true) ∧ Duo w B p b q r w.heap.size o s s m w' := by
  have H0 : Duo w B p b q r w.heap.size o s s m (w.alloc (.cells o.cells 32)) :=
    ⟨hA.up (boxed _ _), hR.up (boxed _ _), Has.fresh w 32 _, (Below.refl _ _).alloc lx _, lp, lb, lq, lr, by simp; omega⟩
  have HF := Lib.hid hA.fine
  obtain ⟨W0, hW⟩ : ∃ W0, W0 = w.alloc (.cells #[.int .i64 o.d, .int .i64 o.a, .int .i64 o.n, .int .i64 o.t, .string o.x, .bool o.f] 32) := ⟨_, rfl⟩
  rw [show w.alloc (.cells o.cells 32) = W0 from hW.symm] at H0
  obtain ⟨bx, hx⟩ : ∃ bx, bx = w.heap.size := ⟨_, rfl⟩
  rw [← hx] at H0 ⊢
  have HH := Lib.hid H0
  have HW := Lib.hid hW
  have HX := Lib.hid hx
  have hd1 : (o.d == 0) = false := by simpa using h0
  have hd2 : (o.d == 1) = false := by simpa using h1
  have hd3 : (o.d == 2) = false := by simpa using h2
  obtain ⟨cap, T, hh, _⟩ := H0.rt.head
  obtain ⟨cs, hc, hl⟩ := H0.rt.row
  have j0 : W0.cell? ⟨q, 0, none⟩ = some (.slice (some ⟨r, 0, none⟩) s.n cap) := hh.cell 0
  have j1 : W0.cell? ⟨r, o.a.toNat, none⟩ = some (.string (s.B o.a.toNat)) := by rw [hc.cell]; exact hl _ (by omega)
  have i2 : decide (o.a < 0) = false := by simp; omega
  have i3 : decide ((s.n : Int) ≤ o.a) = false := by simp; omega
  clear hh hc hl
  clear H0 hA hR lp lb lq lr lx hW hx h0 h1 h2
  unfold OpD.cells opv
  go_enter Try.func8, Try.ntmps8
  go_wp2_with fail
  rw [← HW.out, ← HX.out]
  refine (HH.out.at_.read i0 i1).mono ?_
  rintro e w1 ⟨rfl, rfl⟩
  have HS := HH.out.six
  unfold Six at HS
  obtain ⟨e0, e1, e2, e3, e4, e5⟩ := HS
  go_wp2_with fail
  go_quiet (fail)
  go_wp2_with fail
  go_quiet (fail)
  go_wp2_with fail
  go_ret
  exact ⟨rfl, (HH.out.drewN _).drewN _⟩

set_option maxRecDepth 100000 in
set_option maxHeartbeats 4000000 in
theorem do_past (w : World) (B p b q r : Nat) (s : SS) (m : Int) (o : OpD) (hA : At w p b s m) (hR : Rt w q r s) (h0 : o.d ≠ 0) (h1 : o.d ≠ 1) (h2 : o.d ≠ 2) (i : ¬ (0 ≤ o.a ∧ o.a < s.n)) (lp : B ≤ p) (lb : B ≤ b) (lq : B ≤ q) (lr : B ≤ r) (lx : B ≤ w.heap.size) :
    Calls Try.prog 8 #[.pointer (some ⟨p, 0, none⟩), .pointer (some ⟨q, 0, none⟩), .agg o.cells] w fun e w' => e = .returned (.bool true) ∧ Duo w B p b q r w.heap.size o s s m w' := by
  have H0 : Duo w B p b q r w.heap.size o s s m (w.alloc (.cells o.cells 32)) :=
    ⟨hA.up (boxed _ _), hR.up (boxed _ _), Has.fresh w 32 _, (Below.refl _ _).alloc lx _, lp, lb, lq, lr, by simp; omega⟩
  have HF := Lib.hid hA.fine
  obtain ⟨W0, hW⟩ : ∃ W0, W0 = w.alloc (.cells #[.int .i64 o.d, .int .i64 o.a, .int .i64 o.n, .int .i64 o.t, .string o.x, .bool o.f] 32) := ⟨_, rfl⟩
  rw [show w.alloc (.cells o.cells 32) = W0 from hW.symm] at H0
  obtain ⟨bx, hx⟩ : ∃ bx, bx = w.heap.size := ⟨_, rfl⟩
  rw [← hx] at H0 ⊢
  have HH := Lib.hid H0
  have HW := Lib.hid hW
  have HX := Lib.hid hx
  have hd1 : (o.d == 0) = false := by simpa using h0
  have hd2 : (o.d == 1) = false := by simpa using h1
  have hd3 : (o.d == 2) = false := by simpa using h2
  obtain ⟨cap, T, hh, _⟩ := H0.rt.head
  have j0 : W0.cell? ⟨q, 0, none⟩ = some (.slice (some ⟨r, 0, none⟩) s.n cap) := hh.cell 0
  have I := Lib.hid i
  clear hh i
  clear H0 hA hR lp lb lq lr lx hW hx h0 h1 h2
  unfold OpD.cells opv
  go_enter Try.func8, Try.ntmps8
  go_wp2_with fail
  rw [← HW.out, ← HX.out]
  refine (read_no W0 p b s o.a HH.out.at_.st I.out).mono ?_
  rintro e w1 ⟨rfl, rfl⟩
  have HS := HH.out.six
  unfold Six at HS
  obtain ⟨e0, e1, e2, e3, e4, e5⟩ := HS
  by_cases i0 : o.a < 0
  · have i2 : decide (o.a < 0) = true := by simpa using i0
    go_wp2_with fail
    go_quiet (fail)
    go_wp2_with fail
    go_ret
    exact ⟨rfl, HH.out.drewN _⟩
  · have i2 : decide (o.a < 0) = false := by simpa using i0
    have i3 : decide ((s.n : Int) ≤ o.a) = true := by have := I.out; simp; omega
    go_wp2_with fail
    go_quiet (fail)
    go_wp2_with fail
    go_ret
    exact ⟨rfl, HH.out.drewN _⟩

/-- an operation, whatever it is: both answer the same, and go on the same -/
theorem do_any (w : World) (B p b q r : Nat) (s : SS) (m : Int) (o : OpD) (hA : At w p b s m) (hR : Rt w q r s) (hm : m ≤ 999) (hn : o.n ≤ 9223372036854775807) (lp : B ≤ p) (lb : B ≤ b) (lq : B ≤ q) (lr : B ≤ r) (lx : B ≤ w.heap.size) :
    Calls Try.prog 8 #[.pointer (some ⟨p, 0, none⟩), .pointer (some ⟨q, 0, none⟩), .agg o.cells] w fun e w' => e = .returned (.bool true) ∧ Duo w B p b q r w.heap.size o (stepS s o) (stepS s o) (m + 1) w' := by
  unfold stepS
  by_cases h0 : o.d = 0
  · rw [if_pos h0]
    exact do_write w B p b q r s m o hA hR hm h0 lp lb lq lr lx
  · rw [if_neg h0]
    by_cases h1 : o.d = 1
    · rw [if_pos h1]
      exact (do_fuse w B p b q r s m o hA hR hn h1 lp lb lq lr lx).mono fun _ _ ⟨e, h⟩ => ⟨e, h.more (by omega)⟩
    · rw [if_neg h1]
      by_cases h2 : o.d = 2
      · rw [if_pos h2]
        exact (do_restart w B p b q r s m o hA hR h2 lp lb lq lr lx).mono fun _ _ ⟨e, h⟩ => ⟨e, h.more (by omega)⟩
      · rw [if_neg h2]
        by_cases i : 0 ≤ o.a ∧ o.a < s.n
        · exact (do_read w B p b q r s m o hA hR h0 h1 h2 i.1 i.2 lp lb lq lr lx).mono fun _ _ ⟨e, h⟩ => ⟨e, h.more (by omega)⟩
        · exact (do_past w B p b q r s m o hA hR h0 h1 h2 i lp lb lq lr lx).mono fun _ _ ⟨e, h⟩ => ⟨e, h.more (by omega)⟩
end Go.Proofs.Ytdlhenpocdlomaa
