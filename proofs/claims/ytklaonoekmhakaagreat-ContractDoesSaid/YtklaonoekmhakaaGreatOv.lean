/- made: a contract of terms. -/
import Derived.Test.YtklaonoekmhakaaGreatBoW
import Derived.Test.YtklaonoekmhakaaGreatBoF
import Derived.Test.YtklaonoekmhakaaGreatAlMath
import Derived.Test.YtklaonoekmhakaaGreatPoShare
namespace Go.Proofs.YtklaonoekmhakaaGreat
open Go.RowKit

def askT (t : Tm) : Askd := ⟨⟨t.I, []⟩, t.l, t.m, t.b, t.d⟩
def madeE (t : Tm) : Int := if bnewE t.I ≠ 0 then bnewE t.I else (askT t).E
theorem fine_ofT {I : List Im} (h : bnewE I = 0) (hp : ∀ x ∈ I, Am x.pri) : FineB ⟨I, []⟩ := by
  unfold bnewE at h
  split at h
  · cases h
  · rename_i q
    split at h
    · rename_i q2
      exact fine_new (by omega) (fun x hx => List.all_eq_true.1 q2 x hx) hp
    · cases h
/-- what New answers -/
def CNewR (Cf : World → World → Nat → Ct → Prop) (w : World) (x : Askd) (e : Ending) (w' : World) : Prop :=
  (x.E ≠ 0 ∧ e = .returned (.tuple #[.pointer none, .int .i64 x.E]) ∧ Below w.heap.size w w') ∨ (x.E = 0 ∧ ∃ c, e = .returned (.tuple #[.pointer (some ⟨c, 0, none⟩), .int .i64 0]) ∧ Cf w w' c x.C)
/-- .. and how it is asked -/
def CfN (Cf : World → World → Nat → Ct → Prop) : Prop :=
  ∀ {w : World} {bp r : Nat} (x : Askd) (la ma : Option Addr) (lc mc : Nat), Bk w bp r x.S → x.S.L = [] → LnA w la x.l → x.l.length ≤ 30 → (∀ y ∈ x.l, lnG y) → MbA w ma x.m → x.m.length ≤ 40 → (∀ y ∈ x.m, mbG y) →
    Calls Tryz.prog 33 #[.pointer (some ⟨bp, 0, none⟩), .slice la x.l.length lc, .slice ma x.m.length mc, .int .i64 x.b, .int .i64 x.d] w (CNewR Cf w x)
def MadeR (Cf : World → World → Nat → Ct → Prop) (w : World) (t : Tm) (e : Ending) (w' : World) : Prop :=
  (madeE t ≠ 0 ∧ e = .returned (.tuple #[.pointer none, .int .i64 (madeE t)]) ∧ Below w.heap.size w w') ∨
  (madeE t = 0 ∧ ∃ w0 c, Below w.heap.size w w0 ∧ e = .returned (.tuple #[.pointer (some ⟨c, 0, none⟩), .int .i64 0]) ∧ Cf w0 w' c (askT t).C)
set_option maxRecDepth 100000 in
set_option maxHeartbeats 4000000 in
theorem made16_any {Cf : World → World → Nat → Ct → Prop} (N : CfN Cf) {w : World} {t : Tm} {p : TmP} (h : TmA w p t) (g : TmG t) (hl : t.l.length ≤ 30) (hm : t.m.length ≤ 40) : Calls Tryz.prog 10 #[t.val p] w (MadeR Cf w t) := by
  have HNew := Lib.hid (fun (W : World) (q : Below w.heap.size w W) => bnew_any p.ia t.I.length p.ic t.I W rfl (h.I.up q) h.ic fun y hy => (g.I y hy).2.2.2)
  have HCn := Lib.hid (fun (W : World) (bp r : Nat) (q : Below w.heap.size w W) (hb : Bk W bp r ⟨t.I, []⟩) => N (askT t) p.la p.ma p.lc p.mc hb rfl (h.l.up q) hl g.l (h.m.up q) hm g.m)
  unfold BNewR at HNew
  have HE : Hid (madeE t = if bnewE t.I ≠ 0 then bnewE t.I else (askT t).E) := Lib.hid rfl
  unfold Tm.val MadeR
  obtain ⟨me, hme⟩ : ∃ me, me = madeE t := ⟨_, rfl⟩
  obtain ⟨be, hbe⟩ : ∃ be, be = bnewE t.I := ⟨_, rfl⟩
  obtain ⟨X, hX⟩ : ∃ X, X = askT t := ⟨_, rfl⟩
  have HXl : Hid (X.l = t.l ∧ X.m = t.m ∧ X.b = t.b ∧ X.d = t.d) := Lib.hid (by rw [hX]; exact ⟨rfl, rfl, rfl, rfl⟩)
  rw [← hX] at HCn HE ⊢
  rw [HXl.out.1, HXl.out.2.1, HXl.out.2.2.1, HXl.out.2.2.2] at HCn
  rw [← hbe] at HNew HE
  rw [← hme] at HE ⊢
  obtain ⟨I, l, m, b, d⟩ := t
  obtain ⟨ia, ic, la, lc, ma, mc⟩ := p
  simp only at HNew HCn ⊢
  generalize I.length = ni at HNew ⊢
  generalize l.length = nl at HCn ⊢
  generalize m.length = nm at HCn ⊢
  clear h g hl hm hme hbe hX HXl
  go_enter Tryz.func10, Tryz.ntmps10
  go_wp2_with fail
  obtain ⟨W0, hW0⟩ : ∃ W0, W0 = w.alloc (.cells #[.slice ia ni ic, .slice la nl lc, .slice ma nm mc, .int .i64 b, .int .i64 d] 26) := ⟨_, rfl⟩
  have HX0 : Hid (Has W0 w.heap.size 26 #[.slice ia ni ic, .slice la nl lc, .slice ma nm mc, .int .i64 b, .int .i64 d]) := Lib.hid (by rw [hW0]; exact Has.fresh _ _ _)
  have HB0 : Hid (Below w.heap.size w W0) := Lib.hid (by rw [hW0]; exact boxed _ _)
  obtain ⟨xp, hxp⟩ : ∃ xp, xp = w.heap.size := ⟨_, rfl⟩
  rw [← hW0, ← hxp]
  rw [← hxp] at HX0
  clear hW0 hxp
  refine (HNew.out _ HB0.out).mono ?_
  rintro e w1 (⟨q, rfl, hb⟩ | ⟨q, bp, r, rfl, hR, hb, _⟩)
  · have HB := Lib.hid (up2 HB0.out hb)
    have hE : me = be := by rw [HE.out, if_pos q]
    have HQ0 := Lib.hid q
    have HEe := Lib.hid hE
    clear q hb hE
    go_wp2_with fail
    go_ret2
    exact .inl ⟨by rw [HEe.out]; exact HQ0.out, by rw [HEe.out]; rfl, HB.out⟩
  · have HB1 := Lib.hid (up2 HB0.out hb)
    have hX := HX0.out.up hb
    have k1 := hX.cell 1
    have k2 := hX.cell 2
    have k3 := hX.cell 3
    have k4 := hX.cell 4
    simp at k1 k2 k3 k4
    have hE : me = X.E := by rw [HE.out, if_neg (by simpa using q)]
    have HEe := Lib.hid hE
    have HC := Lib.hid (HCn.out _ bp r HB1.out hR)
    unfold CNewR at HC
    obtain ⟨xe, hxe⟩ : ∃ xe, xe = X.E := ⟨_, rfl⟩
    rw [← hxe] at HC HEe
    clear q hb hR hX hE hxe
    go_wp2_with fail
    refine HC.out.mono ?_
    rintro e w2 (⟨q, rfl, hb⟩ | ⟨q, c, rfl, hc⟩)
    · have HB2 := Lib.hid (up2 HB1.out hb)
      have HQ0 := Lib.hid q
      clear q hb
      go_wp2_with fail
      go_ret2
      exact .inl ⟨by rw [HEe.out]; exact HQ0.out, by rw [HEe.out]; rfl, HB2.out⟩
    · have HQ0 := Lib.hid q
      have HCf := Lib.hid hc
      clear q hc
      go_wp2_with fail
      go_ret2
      exact .inr ⟨by rw [HEe.out]; exact HQ0.out, w1, c, HB1.out, rfl, HCf.out⟩
end Go.Proofs.YtklaonoekmhakaaGreat

namespace Go.Proofs.YtklaonoekmhakaaGreat
open Go.RowKit

set_option maxRecDepth 100000 in
theorem Arg.up13 {w w' : World} {a : Option Addr} {n : Nat} {f : Nat → Int} (h : Arg w a n f) (hb : Below w.heap.size w w') : Arg w' a n f := fun q => by
  obtain ⟨b, off, e, r⟩ := h q; exact ⟨b, off, e, r.below hb⟩
set_option maxRecDepth 100000 in
theorem ints_arg0 {W : World} {p n : Nat} {v : Nat → Int} (h : Ints W p n v) : Arg W (some ⟨p, 0, none⟩) n v := fun _ => ⟨p, 0, rfl, fun k hk => by rw [Nat.zero_add]; exact (h k hk).1⟩

set_option maxRecDepth 100000 in
set_option maxHeartbeats 1000000 in
theorem leave_any (total : Int) (f : Nat → Int) (a : Option Addr) (n cap : Nat) (w : World) (hf : Amounts f) (ht : Am total) (hn : n ≤ 1000) (hA : Arg w a n f) :
    Calls Tryz.prog 92 #[.int .i64 total, .slice a n cap] w fun e w' => e = .returned (.tuple #[.int .i64 (leaveV total f n), .int .i64 (leaveE total f n)]) ∧ Below w.heap.size w w' := by
  have hs := sum_arg f a n cap w hf hn hA
  rcases tellE_or (sumN f n) with ⟨e1, e2, hb⟩ | ⟨e1, e2, _⟩
  · have hl : leaveE total f n = tellE (total - sumN f n) := by unfold leaveE; rw [if_pos e1]
    have hv : leaveV total f n = tellV (total - sumN f n) := by unfold leaveV; rw [if_pos e1]
    rw [e1, e2] at hs
    rw [hl, hv]
    obtain ⟨s, hsd⟩ : ∃ s, s = sumN f n := ⟨_, rfl⟩
    rw [← hsd] at hs hb ⊢
    have HL := Lib.hid (fun W => less_calls total s W ht.1 ht.2 hb.1 hb.2)
    obtain ⟨E, hE⟩ : ∃ E, E = tellE (total - s) := ⟨_, rfl⟩
    obtain ⟨V, hV⟩ : ∃ V, V = tellV (total - s) := ⟨_, rfl⟩
    rw [← hE, ← hV] at HL ⊢
    have HS := Lib.hid hs
    clear hs hE hV hsd hl hv e1 e2 hb hA hf ht
    go_enter Tryz.func92, Tryz.ntmps92
    go_wp2_with fail
    refine HS.out.mono ?_
    rintro e w1 ⟨rfl, hb1⟩
    have HB1 := Lib.hid hb1
    clear hb1
    go_wp2_with fail
    refine (HL.out _).mono ?_
    rintro e w2 ⟨rfl, hb2⟩
    have HB2 := Lib.hid (up2 HB1.out hb2)
    clear hb2
    go_wp2_with fail
    go_ret2
    exact ⟨rfl, HB2.out⟩
  · have hl : leaveE total f n = 3 := by unfold leaveE; rw [if_neg (by omega)]
    have hv : leaveV total f n = 0 := by unfold leaveV; rw [if_neg (by omega)]
    rw [e1, e2] at hs
    rw [hl, hv]
    have HS := Lib.hid hs
    clear hs hl hv e1 e2 hA hf ht
    go_enter Tryz.func92, Tryz.ntmps92
    go_wp2_with fail
    refine HS.out.mono ?_
    rintro e w1 ⟨rfl, hb1⟩
    have HB1 := Lib.hid hb1
    clear hb1
    go_wp2_with fail
    go_ret2
    exact ⟨rfl, HB1.out⟩

def AllPost (w : World) (price : Int) (f : Nat → Int) (n : Nat) (e : Ending) (w' : World) : Prop :=
  Listed w (allE price f n) n (outV price f n) e w' ∧ (allE price f n = 0 → Sorts n (restV (if 0 ≤ price then price else -price) f (sumN f n)))
set_option maxRecDepth 100000 in
set_option maxHeartbeats 1000000 in
theorem all_any (price : Int) (f : Nat → Int) (a : Option Addr) (n cap : Nat) (w : World) (hf : Amounts f) (ht : Am price) (hA : Arg w a n f) :
    Calls Tryz.prog 60 #[.int .i64 price, .slice a n cap] w (AllPost w price f n) := by
  by_cases q : price < 0
  · have hE : allE price f n = 1 := by unfold allE; rw [if_pos q]
    clear hA hf ht
    have HE := Lib.hid hE
    clear hE
    go_enter Tryz.func60, Tryz.ntmps60
    go_wp2_with fail
    go_ret2
    unfold AllPost
    rw [HE.out]
    exact ⟨⟨Below.refl _ _, .inl ⟨by decide, rfl⟩⟩, fun h => absurd h (by decide)⟩
  · have hE : allE price f n = outE price f n := by unfold allE; rw [if_neg q]
    have HO := Lib.hid (out_any price f a n cap w hf ht.1 ht.2 hA)
    have HE := Lib.hid hE
    clear hA hf ht hE
    go_enter Tryz.func60, Tryz.ntmps60
    go_wp2_with fail
    refine HO.out.mono ?_
    rintro e w1 ⟨⟨hb, h⟩, hs⟩
    have HB := Lib.hid hb
    have HS := Lib.hid hs
    clear hb hs
    rcases h with ⟨he, rfl⟩ | ⟨he, p, rfl, hp, hi⟩
    · have HX := Lib.hid he
      clear he
      obtain ⟨E, hEd⟩ : ∃ E, E = outE price f n := ⟨_, rfl⟩
      rw [← hEd] at HX HE ⊢
      clear hEd
      go_wp2_with fail
      go_ret2
      unfold AllPost
      rw [HE.out]
      exact ⟨⟨HB.out, .inl ⟨HX.out, rfl⟩⟩, fun h => absurd h HX.out⟩
    · have HX := Lib.hid (And.intro hp hi)
      have HY := Lib.hid he
      clear hp hi he
      go_wp2_with fail
      go_ret2
      unfold AllPost
      rw [HE.out]
      exact ⟨⟨HB.out, .inr ⟨HY.out, p, rfl, HX.out.1, HX.out.2⟩⟩, HS.out⟩

def PlPost (w : World) (p : Nat → Int) (m n : Nat) (e : Ending) (w' : World) : Prop := ∃ b, e = .returned (.bool b) ∧ (b = true ↔ 0 < m ∧ risesB p n m = true) ∧ w = w'
/-- a list, told as new memory -/
def NewI (w : World) (n : Nat) (v : Nat → Int) (e : Ending) (w' : World) : Prop := ∃ p, e = .returned (.slice (some ⟨p, 0, none⟩) n n) ∧ Below w.heap.size w w' ∧ w.heap.size ≤ p ∧ Ints w' p n v
end Go.Proofs.YtklaonoekmhakaaGreat

namespace Go.Proofs.YtklaonoekmhakaaGreat
open Go.RowKit

theorem Tryz.infoExact : (Tryz.prog.info? 135).map (fun i => (i.zero, i.size, i.bytes)) = some (some (.agg #[.int .i64 0, .slice none 0 0]), 2, 32) := by kernel_rfl

def T30 (W : World) (p : Nat) : Prop := ∃ C fr, W.heap[p]? = some (.cells C 135 fr)
theorem T30.lt {W : World} {p : Nat} (h : T30 W p) : p < W.heap.size := by obtain ⟨C, fr, h⟩ := h; exact heap_lt h
theorem T30.below {W W' : World} {p : Nat} (h : T30 W p) (hb : Below W.heap.size W W') : T30 W' p := by
  have l := h.lt
  obtain ⟨C, fr, h⟩ := h
  exact ⟨C, fr, by rw [hb.block _ l]; exact h⟩
theorem T30.set {W : World} {p q : Nat} (h : T30 W p) (k : Nat) (u : Value) : T30 (W.setCell ⟨q, k, none⟩ u) p := by
  by_cases e : p = q
  · subst e; exact type_set h k u
  · obtain ⟨C, fr, h⟩ := h
    exact ⟨C, fr, by rw [Below.heap_setCell W ⟨q, k, none⟩ u p e]; exact h⟩
theorem Ex.set {W : World} {s : Int} {a : Option Addr} {len cap : Nat} {n : Int} (h : Ex W s a len cap n) {q : Nat} (hq : T30 W q) (k : Nat) (u : Value) : Ex (W.setCell ⟨q, k, none⟩ u) s a len cap n := by
  obtain ⟨h1, l, h2, h3, h4⟩ := h
  exact ⟨h1, l, h2, h3.set hq k u, h4⟩
theorem Ex.grown {W W' : World} {row : Option Nat} {s : Int} {a : Option Addr} {len cap : Nat} {n : Int} (h : Ex W s a len cap n) (hg : W.grownBy W' row) (hr : ∀ g, row = some g → T30 W g) : Ex W' s a len cap n := by
  obtain ⟨h1, l, h2, h3, h4⟩ := h
  refine ⟨h1, l, h2, ?_, h4⟩
  rcases h3 with h | ⟨g, q1, q2, ⟨cur, fr, q3⟩, q4⟩
  · exact .inl h
  · have hne : some g ≠ row := by
      intro e
      obtain ⟨C, fr', hT⟩ := hr g e.symm
      rw [q3] at hT; simp at hT
    exact .inr ⟨g, q1, q2, ⟨cur, fr, by rw [hg.block g (heap_lt q3) hne]; exact q3⟩, fun i hi => hg.cell (q4 i hi) hne⟩

/-- an exact number in a block of its own -/
def Box (W : World) (p : Nat) (s : Int) (a : Option Addr) (len cap : Nat) (n : Int) : Prop := Row2 W p (.int .i64 s) (.slice a len cap) ∧ T30 W p ∧ Ex W s a len cap n
theorem Box.below {W W' : World} {p : Nat} {s : Int} {a : Option Addr} {len cap : Nat} {n : Int} (h : Box W p s a len cap n) (hb : Below W.heap.size W W') : Box W' p s a len cap n :=
  ⟨h.1.below hb, h.2.1.below hb, h.2.2.below hb⟩
theorem Box.put {W : World} {p : Nat} {s : Int} {a : Option Addr} {len cap : Nat} {n : Int} (h : Box W p s a len cap n) {t : Int} {b : Option Addr} {len2 cap2 : Nat} {m : Int} (hE : Ex W t b len2 cap2 m) :
    Box ((W.setCell ⟨p, 0, none⟩ (.int .i64 t)).setCell ⟨p, 1, none⟩ (.slice b len2 cap2)) p t b len2 cap2 m :=
  ⟨h.1.put _ _, (h.2.1.set 0 _).set 1 _, (hE.set h.2.1 0 _).set (h.2.1.set 0 _) 1 _⟩
theorem Row2.other {W : World} {p q : Nat} {x y : Value} (h : Row2 W p x y) (hne : q ≠ p) (k : Nat) (u : Value) : Row2 (W.setCell ⟨q, k, none⟩ u) p x y := by
  obtain ⟨h0, h1, f0, f1⟩ := h
  exact ⟨cSet (by show q ≠ p; exact hne) h0, cSet (by show q ≠ p; exact hne) h1, fSet (by show p ≠ q; exact Ne.symm hne) f0, fSet (by show p ≠ q; exact Ne.symm hne) f1⟩
theorem Box.other {W : World} {p q : Nat} {s : Int} {a : Option Addr} {len cap : Nat} {n : Int} (h : Box W p s a len cap n) (hne : q ≠ p) (hq : T30 W q) (u0 u1 : Value) :
    Box ((W.setCell ⟨q, 0, none⟩ u0).setCell ⟨q, 1, none⟩ u1) p s a len cap n :=
  ⟨(h.1.other hne 0 u0).other hne 1 u1, (h.2.1.set 0 u0).set 1 u1, (h.2.2.set hq 0 u0).set (hq.set 0 u0) 1 u1⟩
theorem Row2.grown {W W' : World} {row : Option Nat} {p : Nat} {x y : Value} (h : Row2 W p x y) (hg : W.grownBy W' row) (hne : some p ≠ row) : Row2 W' p x y := by
  have l := h.lt
  obtain ⟨h0, h1, f0, f1⟩ := h
  exact ⟨hg.cell h0 hne, hg.cell h1 hne, (World.frozen?_of_block (w := W) (a := ⟨p, 0, none⟩) (hg.block p l hne)).trans f0, (World.frozen?_of_block (w := W) (a := ⟨p, 1, none⟩) (hg.block p l hne)).trans f1⟩
theorem T30.grown {W W' : World} {row : Option Nat} {p : Nat} (h : T30 W p) (hg : W.grownBy W' row) (hne : some p ≠ row) : T30 W' p := by
  have l := h.lt
  obtain ⟨C, fr, h⟩ := h
  exact ⟨C, fr, by rw [hg.block _ l hne]; exact h⟩
theorem Box.grown {W W' : World} {row : Option Nat} {p : Nat} {s : Int} {a : Option Addr} {len cap : Nat} {n : Int} (h : Box W p s a len cap n) (hg : W.grownBy W' row) (hne : some p ≠ row) (hr : ∀ g, row = some g → T30 W g) : Box W' p s a len cap n :=
  ⟨h.1.grown hg hne, h.2.1.grown hg hne, h.2.2.grown hg hr⟩
theorem Res.box {W : World} {p : Nat} (h : Res W p) : Box W p 0 none 0 0 0 := ⟨h.1, h.2, ex_zero rfl 0⟩
theorem Box.new (W : World) {s : Int} {a : Option Addr} {len cap : Nat} {n : Int} (h : Ex W s a len cap n) : Box (W.alloc (.cells #[.int .i64 s, .slice a len cap] 135)) W.heap.size s a len cap n :=
  ⟨Row2.new _ _ _ _, ⟨_, _, heap_alloc_new W _⟩, h.below ((Below.refl _ _).alloc (Nat.le_refl _) _)⟩

/-- the doubles of b, from the first on -/
def Dbl (W : World) (B : Nat) (v : Value) (k : Nat) (b : Int) : Prop :=
  ∃ xs, W.ownsRow B 135 2 v (k + 1) xs ∧ ∀ i, i ≤ k → ∃ s a len cap, xs[i * 2]? = some (.int .i64 s) ∧ xs[i * 2 + 1]? = some (.slice a len cap) ∧ Ex W s a len cap (b * 2 ^ i)
/-- .. as cells -/
def DC (W : World) (g k : Nat) (b : Int) : Prop :=
  ∀ i, i ≤ k → ∃ s a len cap, W.cell? ⟨g, i * 2, none⟩ = some (.int .i64 s) ∧ W.cell? ⟨g, i * 2 + 1, none⟩ = some (.slice a len cap) ∧ Ex W s a len cap (b * 2 ^ i)
theorem own_below {W W' : World} {B e size n : Nat} {v : Value} {xs : List Value} (h : W.ownsRow B e size v n xs) (hb : Below W.heap.size W W') : W'.ownsRow B e size v n xs := by
  obtain ⟨h1, h2⟩ := h
  refine ⟨h1, ?_⟩
  rcases h2 with h | ⟨g, cap, cur, q1, q2, q3, q4⟩
  · exact .inl h
  · exact .inr ⟨g, cap, cur, q1, q2, by rw [hb.block g (heap_lt q3)]; exact q3, q4⟩
theorem Dbl.below {W W' : World} {B k : Nat} {v : Value} {b : Int} (h : Dbl W B v k b) (hb : Below W.heap.size W W') : Dbl W' B v k b := by
  obtain ⟨xs, h1, h2⟩ := h
  exact ⟨xs, own_below h1 hb, fun i hi => by obtain ⟨s, a, len, cap, q1, q2, q3⟩ := h2 i hi; exact ⟨s, a, len, cap, q1, q2, q3.below hb⟩⟩
theorem Dbl.get {W : World} {B k : Nat} {v : Value} {b : Int} (h : Dbl W B v k b) : ∃ g cap, v = .slice (some ⟨g, 0, none⟩) (k + 1) cap ∧ B ≤ g ∧ T30 W g ∧ DC W g k b := by
  obtain ⟨xs, h1, h2⟩ := h
  have h1' := h1
  obtain ⟨e1, e2⟩ := h1
  rcases e2 with ⟨_, q⟩ | ⟨g, cap, cur, q1, q2, q3, q4⟩
  · omega
  · subst q1
    refine ⟨g, cap, rfl, q2, ⟨cur, (0, 0), q3⟩, fun i hi => ?_⟩
    obtain ⟨s, a, len, cap', r1, r2, r3⟩ := h2 i hi
    exact ⟨s, a, len, cap', by rw [h1'.cellAt _ (by omega)]; exact r1, by rw [h1'.cellAt _ (by omega)]; exact r2, r3⟩
theorem Dbl.row {W : World} {B k : Nat} {v : Value} {b : Int} (h : Dbl W B v k b) : ∀ g, v.ownBlock = some g → T30 W g ∧ B ≤ g := by
  obtain ⟨g, cap, rfl, h2, h3, _⟩ := h.get
  intro g' hg; simp [Value.ownBlock] at hg; subst hg; exact ⟨h3, h2⟩
theorem Dbl.start {W : World} {B : Nat} {s : Int} {a : Option Addr} {len cap : Nat} {b : Int} (h : Ex W s a len cap b) (hB : B ≤ W.heap.size) :
    Dbl (W.alloc (.cells #[.int .i64 s, .slice a len cap] 135)) B (.slice (some ⟨W.heap.size, 0, none⟩) 1 1) 0 b := by
  refine ⟨[.int .i64 s, .slice a len cap], World.ownsRow_lit (e := 135) (size := 2) (base := B) W #[.int .i64 s, .slice a len cap] 1 hB (by unfold maxLen; omega) rfl, fun i hi => ?_⟩
  obtain rfl : i = 0 := by omega
  exact ⟨s, a, len, cap, rfl, rfl, by rw [Int.pow_zero, Int.mul_one]; exact h.below ((Below.refl _ _).alloc (Nat.le_refl _) _)⟩
theorem Dbl.step {W w1 : World} {B k : Nat} {v v' : Value} {b : Int} {xs : List Value} {s : Int} {a : Option Addr} {len cap : Nat} (h1 : W.ownsRow B 135 2 v (k + 1) xs)
    (h2 : ∀ i, i ≤ k → ∃ s a len cap, xs[i * 2]? = some (.int .i64 s) ∧ xs[i * 2 + 1]? = some (.slice a len cap) ∧ Ex W s a len cap (b * 2 ^ i))
    (hE : Ex W s a len cap (b * 2 ^ (k + 1))) (h3 : w1.ownsRow B 135 2 v' (k + 1 + 1) (xs ++ [.int .i64 s, .slice a len cap])) (o : Obj) (h4 : (W.alloc o).grownBy w1 v.ownBlock) : Dbl w1 B v' (k + 1) b := by
  have hD : Dbl W B v k b := ⟨xs, h1, h2⟩
  have hb : Below W.heap.size W (W.alloc o) := (Below.refl _ _).alloc (Nat.le_refl _) _
  have hr : ∀ g, v.ownBlock = some g → T30 (W.alloc o) g := fun g hg => (hD.row g hg).1.below hb
  have hl := h1.1
  refine ⟨_, h3, fun i hi => ?_⟩
  by_cases hk : i ≤ k
  · obtain ⟨s', a', len', cap', q1, q2, q3⟩ := h2 i hk
    exact ⟨s', a', len', cap', by rw [List.getElem?_append_left (by omega)]; exact q1, by rw [List.getElem?_append_left (by omega)]; exact q2, (q3.below hb).grown h4 hr⟩
  · obtain rfl : i = k + 1 := by omega
    refine ⟨s, a, len, cap, ?_, ?_, (hE.below hb).grown h4 hr⟩
    · rw [List.getElem?_append_right (by omega), show (k + 1) * 2 - xs.length = 0 by omega]; rfl
    · rw [List.getElem?_append_right (by omega), show (k + 1) * 2 + 1 - xs.length = 1 by omega]; rfl
theorem DC.below {W W' : World} {g k : Nat} {b : Int} (h : DC W g k b) (hb : Below W.heap.size W W') : DC W' g k b := fun i hi => by
  obtain ⟨s, a, len, cap, q1, q2, q3⟩ := h i hi
  exact ⟨s, a, len, cap, kcell hb q1, kcell hb q2, q3.below hb⟩
theorem DC.other {W : World} {g k q : Nat} {b : Int} (h : DC W g k b) (hne : q ≠ g) (hq : T30 W q) (u0 u1 : Value) : DC ((W.setCell ⟨q, 0, none⟩ u0).setCell ⟨q, 1, none⟩ u1) g k b := fun i hi => by
  obtain ⟨s, a, len, cap, q1, q2, q3⟩ := h i hi
  exact ⟨s, a, len, cap, cSet (by show q ≠ g; exact hne) (cSet (by show q ≠ g; exact hne) q1), cSet (by show q ≠ g; exact hne) (cSet (by show q ≠ g; exact hne) q2), (q3.set hq 0 u0).set (hq.set 0 u0) 1 u1⟩
end Go.Proofs.YtklaonoekmhakaaGreat
