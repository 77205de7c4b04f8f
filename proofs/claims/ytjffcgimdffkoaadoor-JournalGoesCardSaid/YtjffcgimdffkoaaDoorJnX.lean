/- A journal opened: where nothing is told. -/
import Derived.Test.YtjffcgimdffkoaaDoorJnW
namespace Go.Proofs.YtjffcgimdffkoaaDoor
open Go.RowKit

/-- what Open does where no record lies -/
structure Begun (s : SS) (R : SS × Int) : Prop where
  n : R.1.n = s.n
  ok : R.2 = 0 → openS s = (R.1, some { half := cntH s, next := frm s.n (cntH s) + 1, L := [[]], br := false }, 0)
  no : R.2 ≠ 0 → openS s = (R.1, none, R.2)
  fit : frm s.n (cntH s) + 1 ≤ til s.n (cntH s)
theorem open_begin {s : SS} {q : Nat} (hc : s.B 0 = mark0 0 ∨ s.B 0 = mark0 1) (hs : scan s.B (til s.n (cntH s)) (s.n + 1) (frm s.n (cntH s)) = some ([], q)) (h3 : 3 ≤ s.n) :
    Begun s (runW s (layW s.B [] (frm s.n (cntH s)) (til s.n (cntH s)))) := by
  have hq := scan_nil _ _ _ _ _ hs
  subst hq
  have hr := read_some hc hs
  have hf : frm s.n (cntH s) + 1 ≤ til s.n (cntH s) := by unfold til hlf; omega
  have hfull : ¬ full [] (frm s.n (cntH s)) (til s.n (cntH s)) := by
    unfold full
    have : nb ([] : List UInt8).length = 1 := rfl
    simp only [List.length_nil] at this ⊢
    omega
  refine ⟨runW_n _ _, fun h0 => ?_, fun h0 => ?_, hf⟩
  · unfold openS
    rw [hr]
    simp only
    rw [if_pos trivial]
    have e : appS s { half := cntH s, next := frm s.n (cntH s), L := [], br := false } [] = ((runW s (layW s.B [] (frm s.n (cntH s)) (til s.n (cntH s)))).1, { half := cntH s, next := frm s.n (cntH s) + 1, L := [[]], br := false }, 0) := by
      unfold appS
      rw [if_neg (by simp), if_neg hfull, if_pos h0]
      rfl
    rw [e, if_pos rfl]
  · unfold openS
    rw [hr]
    simp only
    rw [if_pos trivial]
    have e : appS s { half := cntH s, next := frm s.n (cntH s), L := [], br := false } [] = ((runW s (layW s.B [] (frm s.n (cntH s)) (til s.n (cntH s)))).1, { half := cntH s, next := frm s.n (cntH s), L := [], br := true }, (runW s (layW s.B [] (frm s.n (cntH s)) (til s.n (cntH s)))).2) := by
      unfold appS
      rw [if_neg (by simp), if_neg hfull, if_neg h0]
    rw [e, if_neg h0]
theorem Begun.bad {s : SS} {S : SS × Int} {w w' : World} {p b : Nat} {m : Int} (H : Begun s S) (hA : At w' p b S.1 m) (hb : But p b w w') (h0 : S.2 ≠ 0) : OpnR w p b (openS s) m (.returned (.tuple #[.pointer none, .int .i64 S.2])) w' := by
  rw [H.no h0]
  exact ⟨hb, h0, rfl, hA⟩
theorem Begun.fine {s : SS} {S : SS × Int} {w w' : World} {p b J R : Nat} {m : Int} (H : Begun s S) (hA : At w' p b S.1 m) (hb : But p b w w') (h0 : S.2 = 0) (n1 : w.heap.size ≤ J) (n2 : w.heap.size ≤ R) (n3 : R ≠ J) (hR : R < w'.heap.size) (hlt : p < w.heap.size ∧ b < w.heap.size)
    (hJ : Has w' J 63 (jcs p (cntH s) (hlf s.n) 1 nilS (.slice none 0 0) false)) : OpnR w p b (openS s) m (.returned (.tuple #[.pointer (some ⟨J, 0, none⟩), .int .i64 0])) w' := by
  rw [H.ok h0]
  refine ⟨hb, rfl, J, R, .slice none 0 0, n1, n2, rfl, ⟨hA, ⟨?_, .inl ⟨rfl, rfl⟩, hR⟩, n3, by omega, by omega⟩, ⟨cntH_le s, ?_, ?_, by simp⟩⟩
  · show Has w' J _ (jcs p (cntH s) (hlf S.1.n) (frm s.n (cntH s) + 1 - frm S.1.n (cntH s)) (str []) _ false)
    rw [H.n, show frm s.n (cntH s) + 1 - frm s.n (cntH s) = 1 by omega]
    exact hJ
  · show frm S.1.n (cntH s) + 1 ≤ frm s.n (cntH s) + 1
    rw [H.n]; exact Nat.le_refl _
  · show frm s.n (cntH s) + 1 ≤ til S.1.n (cntH s)
    rw [H.n]; exact H.fit

set_option maxRecDepth 100000 in
set_option maxHeartbeats 2000000 in
theorem open_begun (w : World) (p b : Nat) (s : SS) (m : Int) (hm : m ≤ 800000) (q : Nat) (hA : At w p b s m) (hc : s.B 0 = mark0 0 ∨ s.B 0 = mark0 1) (hs : scan s.B (til s.n (cntH s)) (s.n + 1) (frm s.n (cntH s)) = some ([], q)) (hT : Tb w) :
    Calls Tryd.prog 8 #[.pointer (some ⟨p, 0, none⟩)] w (OpnR w p b (openS s) (m + 10000)) := by
  have hA0 := hA
  have hq := scan_nil _ _ _ _ _ hs
  subst hq
  have HO := Lib.hid (open_begin hc hs hA.fine.lo)
  obtain ⟨h, hh⟩ : ∃ h, h = cntH s := ⟨_, rfl⟩
  obtain ⟨k, hk⟩ : ∃ k, k = hlf s.n := ⟨_, rfl⟩
  have hle : h ≤ 1 := by rw [hh]; exact cntH_le s
  have eF : 1 + h * k = frm s.n (cntH s) := by rw [hh, hk]; rfl
  have eT : frm s.n (cntH s) + k = til s.n (cntH s) := by rw [hk]; rfl
  have HC : Hid (Calls Tryd.prog 20 #[.pointer (some ⟨p, 0, none⟩)] w fun e w' => e = .returned (.tuple #[.agg #[.pointer (some ⟨p, 0, none⟩), .int .i64 (h : Int), .int .i64 (k : Int)], .int .i64 0]) ∧ Below w.heap.size w w') := by
    refine (counting_any w p b s m hA).mono ?_
    rintro e w' ⟨hb, z | z⟩
    · rw [hh, hk]; exact ⟨z.2, hb⟩
    · rcases hc with y | y
      · exact absurd y z.1
      · exact absurd y z.2.1
  have HR : Hid (∀ W : World, Below w.heap.size w W → Calls Tryd.prog 21 #[.agg #[.pointer (some ⟨p, 0, none⟩), .int .i64 (h : Int), .int .i64 (k : Int)]] W (RecsR W (frm s.n (cntH s)) (til s.n (cntH s)) (some ([], frm s.n (cntH s))))) := fun W z => by
    have h3 := hA.fine.lo
    have := hrecs_any W p b h k s m (hA.up z) hle (by rw [hk]; have := hlf_le hA.fine.hi; omega) (by rw [hk]; exact two_le h3 hle) (hT.up z)
    rwa [eF, eT, hs] at this
  have HE := Lib.hid (And.intro hh (And.intro hk (And.intro eF eT)))
  have HA := Lib.hid hA
  have HT := Lib.hid hT
  clear hA hc hs hT hh hk eF eT hA0
  go_enter Tryd.func8, Tryd.ntmps8
  go_wp2_with fail
  refine HC.out.mono ?_
  rintro e w1 ⟨rfl, hb1⟩
  have HBa := Lib.hid (hb1.alloc hb1.size (.cells #[.pointer (some ⟨p, 0, none⟩), .int .i64 (h : Int), .int .i64 (k : Int)] 57))
  have HX := Lib.hid (Has.fresh w1 57 (hv p h k))
  clear hb1
  go_wp2_with fail
  refine (HR.out _ HBa.out).mono ?_
  rintro e w2 ⟨hb2, hlo, hhi, R, v, l1, l2, rfl, hrow⟩
  have HB2 := Lib.hid (lots HBa.out hb2)
  have X2 := HX.out.up hb2
  obtain ⟨X, hX⟩ : ∃ X, X = w1.heap.size := ⟨_, rfl⟩
  rw [← hX] at X2 ⊢
  have B3 := X2.box3
  unfold Box3 at B3
  obtain ⟨c0, c1, c2⟩ := B3
  rcases hrow with ⟨rfl, _⟩ | ⟨o, c, cs, rfl, hR, hfit, hcc, hcm, _⟩
  all_goals
    have zX := X2.lt
    obtain ⟨W3, hW3⟩ : ∃ W3, W3 = w2.alloc (.cells #[.pointer (some ⟨p, 0, none⟩), .int .i64 (h : Int), .int .i64 (k : Int), .int .i64 0, .string { data := #[] }, .slice none 0 0, .bool false] 63) := ⟨_, rfl⟩
    have hJ3 : Has W3 w2.heap.size 63 (jcs p h k 0 nilS (.slice none 0 0) false) := by rw [hW3]; exact Has.fresh w2 63 _
    have hb3 : Below w.heap.size w W3 := by rw [hW3]; exact HB2.out.alloc HB2.out.size _
    have hR3 : R < W3.heap.size := by rw [hW3]; simp; omega
    obtain ⟨J, hJe⟩ : ∃ J, J = w2.heap.size := ⟨_, rfl⟩
    rw [← hJe] at hJ3
    have hJw : w.heap.size ≤ J := by rw [hJe]; exact HB2.out.size
    have hRw : w.heap.size ≤ R := Nat.le_trans HBa.out.size l1
    have hRJ : R ≠ J := by omega
    have hA3 := HA.out.up hb3
    have hbg := begin_any W3 J p b h 0 s m (by rw [← HE.out.2.1]; exact hJ3) hA3 hm hle (HT.out.up hb3)
    rw [← HE.out.2.1] at hbg
    have e0 : frm s.n h = frm s.n (cntH s) ∧ til s.n h = til s.n (cntH s) := by rw [← HE.out.1]; exact ⟨rfl, rfl⟩
    rw [e0.1, e0.2] at hbg
    have HBG := Lib.hid hbg
    have HW3 := Lib.hid hW3
    have HB3 := Lib.hid hb3
    have HR3 := Lib.hid hR3
    have HJe := Lib.hid hJe
    have HN := Lib.hid (And.intro hJw (And.intro hRw hRJ))
    have e1 : ((frm s.n (cntH s) - frm s.n (cntH s) : Nat) : Int) = 0 := by omega
    rw [e1]
    clear e0 e1 hb2 hlo hhi l1 l2 X2 hX hW3 hJ3 hb3 hR3 hJe hJw hRw hRJ hA3 hbg
    go_wp2_with fail
    rw [← HW3.out, ← HJe.out]
    refine HBG.out.mono ?_
    rintro e w4 ⟨hA4, hT4, hE⟩
    have hbut := hT4.but HB3.out HN.out.1
    rcases hE with ⟨hE0, rfl⟩ | ⟨hE0, rfl, hJ4⟩
    · have F1 := Lib.hid (And.intro hA4 (And.intro hbut hE0))
      clear hA4 hT4 hbut hE0
      go_wp2
      go_ret2
      exact HO.out.bad F1.out.1 F1.out.2.1 F1.out.2.2
    · have F1 := Lib.hid (And.intro hA4 (And.intro hbut (And.intro hE0 (And.intro hJ4 hT4.size))))
      clear hA4 hT4 hbut hE0 hJ4
      go_wp2
      go_ret2
      exact HO.out.fine F1.out.1 F1.out.2.1 F1.out.2.2.1 HN.out.1 HN.out.2.1 HN.out.2.2 (Nat.lt_of_lt_of_le HR3.out F1.out.2.2.2.2) HA.out.lt (by rw [← HE.out.1, ← HE.out.2.1]; exact F1.out.2.2.2.1)

theorem OpnR.more {w w' : World} {p b : Nat} {S : SS × Option JS × Int} {m k : Int} {e : Ending} (h : OpnR w p b S m e w') (q : m ≤ k) : OpnR w p b S k e w' := by
  obtain ⟨hb, h⟩ := h
  refine ⟨hb, ?_⟩
  cases hj : S.2.1 with
  | none => rw [hj] at h; exact ⟨h.1, h.2.1, h.2.2.fine_more q⟩
  | some j =>
    rw [hj] at h
    obtain ⟨h0, J, R, v, a1, a2, a3, a4, a5⟩ := h
    exact ⟨h0, J, R, v, a1, a2, a3, ⟨a4.at_.fine_more q, a4.jv, a4.ne⟩, a5⟩
/-- Open, whatever the store -/
theorem open_any (w : World) (p b : Nat) (s : SS) (m : Int) (hA : At w p b s m) (hm : m ≤ 800000) (hT : Tb w) : Calls Tryd.prog 8 #[.pointer (some ⟨p, 0, none⟩)] w (OpnR w p b (openS s) (m + 10000)) := by
  by_cases hc : s.B 0 = mark0 0 ∨ s.B 0 = mark0 1
  · cases hs : scan s.B (til s.n (cntH s)) (s.n + 1) (frm s.n (cntH s)) with
    | none =>
      refine (open_bad w p b s m hA hc hs hT).mono ?_
      rintro e w' ⟨rfl, hb⟩
      rw [read_none hc hs]
      exact ⟨But.of p b hb, by simp, rfl, (hA.up hb).fine_more (by omega)⟩
    | some z =>
      obtain ⟨L, q⟩ := z
      cases L with
      | nil => exact open_begun w p b s m hm q hA hc hs hT
      | cons x L =>
        refine (open_old w p b s m x L q hA hc hs hT).mono fun e w' h => ?_
        have : openS s = (s, some { half := cntH s, next := q, L := x :: L, br := false }, 0) := by
          unfold openS
          rw [read_some hc hs]
          simp
        rw [this]
        exact h.more (by omega)
  · have h0 : s.B 0 ≠ mark0 0 := fun z => hc (.inl z)
    have h1 : s.B 0 ≠ mark0 1 := fun z => hc (.inr z)
    refine (open_no w p b s m hA h0 h1).mono ?_
    rintro e w' ⟨rfl, hb⟩
    rw [openS_none h0 h1]
    exact ⟨But.of p b hb, by simp, rfl, (hA.up hb).fine_more (by omega)⟩
end Go.Proofs.YtjffcgimdffkoaaDoor
