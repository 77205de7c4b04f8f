/- A journal opened: where nothing is told. -/
import Derived.BigQuiet
import Derived.Test.YtjffcgimdffkoaaGreatDoorJnW
namespace Go.Proofs.YtjffcgimdffkoaaGreatDoor
open Go.RowKit

/-- what Open does where no record lies -/
structure Begun (s : SS) (R : SS × Int) : Prop where
  n : R.1.n = s.n
  ok : R.2 = 0 → openS s = (R.1, some { half := cntH s, next := frm s.n (cntH s) + 1, L := [[]], br := false }, 0)
  no : R.2 ≠ 0 → openS s = (R.1, none, R.2)
  fit : frm s.n (cntH s) + 1 ≤ til s.n (cntH s)
theorem open_begin {s : SS} {q : Nat} (hc : s.B 0 = mark0 0 ∨ s.B 0 = mark0 1) (hs : scan s.B (til s.n (cntH s)) (s.n + 1) (frm s.n (cntH s)) = some ([], q)) (h3 : 3 ≤ s.n) :
    Begun s (runW s (layW s.B [] (frm s.n (cntH s)) (til s.n (cntH s)))) := by
  have hq := scan_nil _ _ _ _ _ hs
  subst hq
  have hr := read_some hc hs
  have hf : frm s.n (cntH s) + 1 ≤ til s.n (cntH s) := by unfold til hlf; omega
  have hfull : ¬ full [] (frm s.n (cntH s)) (til s.n (cntH s)) := by
    unfold full
    have : nb ([] : List UInt8).length = 1 := rfl
    simp only [List.length_nil] at this ⊢
    omega
  refine ⟨runW_n _ _, fun h0 => ?_, fun h0 => ?_, hf⟩
  · unfold openS
    rw [hr]
    simp only
    rw [if_pos trivial]
    have e : appS s { half := cntH s, next := frm s.n (cntH s), L := [], br := false } [] = ((runW s (layW s.B [] (frm s.n (cntH s)) (til s.n (cntH s)))).1, { half := cntH s, next := frm s.n (cntH s) + 1, L := [[]], br := false }, 0) := by
      unfold appS
      rw [if_neg (by simp), if_neg hfull, if_pos h0]
      rfl
    rw [e, if_pos rfl]
  · unfold openS
    rw [hr]
    simp only
    rw [if_pos trivial]
    have e : appS s { half := cntH s, next := frm s.n (cntH s), L := [], br := false } [] = ((runW s (layW s.B [] (frm s.n (cntH s)) (til s.n (cntH s)))).1, { half := cntH s, next := frm s.n (cntH s), L := [], br := true }, (runW s (layW s.B [] (frm s.n (cntH s)) (til s.n (cntH s)))).2) := by
      unfold appS
      rw [if_neg (by simp), if_neg hfull, if_neg h0]
    rw [e, if_neg h0]
theorem Begun.bad {s : SS} {S : SS × Int} {w w' : World} {p b : Nat} {m : Int} (H : Begun s S) (hA : At w' p b S.1 m) (hb : But p b w w') (h0 : S.2 ≠ 0) : OpnR w p b (openS s) m (.returned (.tuple #[.pointer none, .int .i64 S.2])) w' := by
  rw [H.no h0]
  exact ⟨hb, h0, rfl, hA⟩
theorem Begun.fine {s : SS} {S : SS × Int} {w w' : World} {p b J R : Nat} {m : Int} (H : Begun s S) (hA : At w' p b S.1 m) (hb : But p b w w') (h0 : S.2 = 0) (n1 : w.heap.size ≤ J) (n2 : w.heap.size ≤ R) (n3 : R ≠ J) (hR : R < w'.heap.size) (hlt : p < w.heap.size ∧ b < w.heap.size)
    (hJ : Has w' J 66 (jcs p (cntH s) (hlf s.n) 1 nilS (.slice none 0 0) false)) : OpnR w p b (openS s) m (.returned (.tuple #[.pointer (some ⟨J, 0, none⟩), .int .i64 0])) w' := by
  rw [H.ok h0]
  refine ⟨hb, rfl, J, R, .slice none 0 0, n1, n2, rfl, ⟨hA, ⟨?_, .inl ⟨rfl, rfl⟩, hR⟩, n3, by omega, by omega⟩, ⟨cntH_le s, ?_, ?_, by simp⟩⟩
  · show Has w' J _ (jcs p (cntH s) (hlf S.1.n) (frm s.n (cntH s) + 1 - frm S.1.n (cntH s)) (str []) _ false)
    rw [H.n, show frm s.n (cntH s) + 1 - frm s.n (cntH s) = 1 by omega]
    exact hJ
  · show frm S.1.n (cntH s) + 1 ≤ frm s.n (cntH s) + 1
    rw [H.n]; exact Nat.le_refl _
  · show frm s.n (cntH s) + 1 ≤ til S.1.n (cntH s)
    rw [H.n]; exact H.fit

set_option maxRecDepth 100000 in
set_option maxHeartbeats 2000000 in
theorem open_begun (w : World) (p b : Nat) (s : SS) (m : Int) (hm : m ≤ 800000) (q : Nat) (hA : At w p b s m) (hc : s.B 0 = mark0 0 ∨ s.B 0 = mark0 1) (hs : scan s.B (til s.n (cntH s)) (s.n + 1) (frm s.n (cntH s)) = some ([], q)) (hT : Tb w) :
    Calls Tryz.prog 8 #[.pointer (some ⟨p, 0, none⟩)] w (OpnR w p b (openS s) (m + 10000)) := by
  have hA0 := hA
  have hq := scan_nil _ _ _ _ _ hs
  subst hq
  have HO := Lib.hid (open_begin hc hs hA.fine.lo)
  obtain ⟨h, hh⟩ : ∃ h, h = cntH s := ⟨_, rfl⟩
  obtain ⟨k, hk⟩ : ∃ k, k = hlf s.n := ⟨_, rfl⟩
  have hle : h ≤ 1 := by rw [hh]; exact cntH_le s
  have eF : 1 + h * k = frm s.n (cntH s) := by rw [hh, hk]; rfl
  have eT : frm s.n (cntH s) + k = til s.n (cntH s) := by rw [hk]; rfl
  have HC : Hid (Calls Tryz.prog 27 #[.pointer (some ⟨p, 0, none⟩)] w fun e w' => e = .returned (.tuple #[.agg #[.pointer (some ⟨p, 0, none⟩), .int .i64 (h : Int), .int .i64 (k : Int)], .int .i64 0]) ∧ Below w.heap.size w w') := by
    refine (counting_any w p b s m hA).mono ?_
    rintro e w' ⟨hb, z | z⟩
    · rw [hh, hk]; exact ⟨z.2, hb⟩
    · rcases hc with y | y
      · exact absurd y z.1
      · exact absurd y z.2.1
  have HR : Hid (∀ W : World, Below w.heap.size w W → Calls Tryz.prog 28 #[.agg #[.pointer (some ⟨p, 0, none⟩), .int .i64 (h : Int), .int .i64 (k : Int)]] W (RecsR W (frm s.n (cntH s)) (til s.n (cntH s)) (some ([], frm s.n (cntH s))))) := fun W z => by
    have h3 := hA.fine.lo
    have := hrecs_any W p b h k s m (hA.up z) hle (by rw [hk]; have := hlf_le hA.fine.hi; omega) (by rw [hk]; exact two_le h3 hle) (hT.up z)
    rwa [eF, eT, hs] at this
  have HE := Lib.hid (And.intro hh (And.intro hk (And.intro eF eT)))
  have HA := Lib.hid hA
  have HT := Lib.hid hT
  clear hA hc hs hT hh hk eF eT hA0
  go_enter Tryz.func8, Tryz.ntmps8
  go_wp2_with fail
  refine HC.out.mono ?_
  rintro e w1 ⟨rfl, hb1⟩
  have HBa := Lib.hid (hb1.alloc hb1.size (.cells #[.pointer (some ⟨p, 0, none⟩), .int .i64 (h : Int), .int .i64 (k : Int)] 60))
  have HX := Lib.hid (Has.fresh w1 60 (hv p h k))
  clear hb1
  go_wp2_with fail
  refine (HR.out _ HBa.out).mono ?_
  rintro e w2 ⟨hb2, hlo, hhi, R, v, l1, l2, rfl, hrow⟩
  have HB2 := Lib.hid (lots HBa.out hb2)
  have X2 := HX.out.up hb2
  obtain ⟨X, hX⟩ : ∃ X, X = w1.heap.size := ⟨_, rfl⟩
  rw [← hX] at X2 ⊢
  have B3 := X2.box3
  unfold Box3 at B3
  obtain ⟨c0, c1, c2⟩ := B3
  rcases hrow with ⟨rfl, _⟩ | ⟨o, c, cs, rfl, hR, hfit, hcc, hcm, _⟩
  all_goals
    have zX := X2.lt
    obtain ⟨W3, hW3⟩ : ∃ W3, W3 = w2.alloc (.cells #[.pointer (some ⟨p, 0, none⟩), .int .i64 (h : Int), .int .i64 (k : Int), .int .i64 0, .string { data := #[] }, .slice none 0 0, .bool false] 66) := ⟨_, rfl⟩
    have hJ3 : Has W3 w2.heap.size 66 (jcs p h k 0 nilS (.slice none 0 0) false) := by rw [hW3]; exact Has.fresh w2 66 _
    have hb3 : Below w.heap.size w W3 := by rw [hW3]; exact HB2.out.alloc HB2.out.size _
    have hR3 : R < W3.heap.size := by rw [hW3]; simp; omega
    obtain ⟨J, hJe⟩ : ∃ J, J = w2.heap.size := ⟨_, rfl⟩
    rw [← hJe] at hJ3
    have hJw : w.heap.size ≤ J := by rw [hJe]; exact HB2.out.size
    have hRw : w.heap.size ≤ R := Nat.le_trans HBa.out.size l1
    have hRJ : R ≠ J := by omega
    have hA3 := HA.out.up hb3
    have hbg := begin_any W3 J p b h 0 s m (by rw [← HE.out.2.1]; exact hJ3) hA3 hm hle (HT.out.up hb3)
    rw [← HE.out.2.1] at hbg
    have e0 : frm s.n h = frm s.n (cntH s) ∧ til s.n h = til s.n (cntH s) := by rw [← HE.out.1]; exact ⟨rfl, rfl⟩
    rw [e0.1, e0.2] at hbg
    have HBG := Lib.hid hbg
    have HW3 := Lib.hid hW3
    have HB3 := Lib.hid hb3
    have HR3 := Lib.hid hR3
    have HJe := Lib.hid hJe
    have HN := Lib.hid (And.intro hJw (And.intro hRw hRJ))
    have e1 : ((frm s.n (cntH s) - frm s.n (cntH s) : Nat) : Int) = 0 := by omega
    rw [e1]
    clear e0 e1 hb2 hlo hhi l1 l2 X2 hX hW3 hJ3 hb3 hR3 hJe hJw hRw hRJ hA3 hbg
    go_wp2_with fail
    rw [← HW3.out, ← HJe.out]
    refine HBG.out.mono ?_
    rintro e w4 ⟨hA4, hT4, hE⟩
    have hbut := hT4.but HB3.out HN.out.1
    rcases hE with ⟨hE0, rfl⟩ | ⟨hE0, rfl, hJ4⟩
    · have F1 := Lib.hid (And.intro hA4 (And.intro hbut hE0))
      clear hA4 hT4 hbut hE0
      go_wp2
      go_ret2
      exact HO.out.bad F1.out.1 F1.out.2.1 F1.out.2.2
    · have F1 := Lib.hid (And.intro hA4 (And.intro hbut (And.intro hE0 (And.intro hJ4 hT4.size))))
      clear hA4 hT4 hbut hE0 hJ4
      go_wp2
      go_ret2
      exact HO.out.fine F1.out.1 F1.out.2.1 F1.out.2.2.1 HN.out.1 HN.out.2.1 HN.out.2.2 (Nat.lt_of_lt_of_le HR3.out F1.out.2.2.2.2) HA.out.lt (by rw [← HE.out.1, ← HE.out.2.1]; exact F1.out.2.2.2.1)

theorem OpnR.more {w w' : World} {p b : Nat} {S : SS × Option JS × Int} {m k : Int} {e : Ending} (h : OpnR w p b S m e w') (q : m ≤ k) : OpnR w p b S k e w' := by
  obtain ⟨hb, h⟩ := h
  refine ⟨hb, ?_⟩
  cases hj : S.2.1 with
  | none => rw [hj] at h; exact ⟨h.1, h.2.1, h.2.2.fine_more q⟩
  | some j =>
    rw [hj] at h
    obtain ⟨h0, J, R, v, a1, a2, a3, a4, a5⟩ := h
    exact ⟨h0, J, R, v, a1, a2, a3, ⟨a4.at_.fine_more q, a4.jv, a4.ne⟩, a5⟩
/-- Open, whatever the store -/
theorem open_any (w : World) (p b : Nat) (s : SS) (m : Int) (hA : At w p b s m) (hm : m ≤ 800000) (hT : Tb w) : Calls Tryz.prog 8 #[.pointer (some ⟨p, 0, none⟩)] w (OpnR w p b (openS s) (m + 10000)) := by
  by_cases hc : s.B 0 = mark0 0 ∨ s.B 0 = mark0 1
  · cases hs : scan s.B (til s.n (cntH s)) (s.n + 1) (frm s.n (cntH s)) with
    | none =>
      refine (open_bad w p b s m hA hc hs hT).mono ?_
      rintro e w' ⟨rfl, hb⟩
      rw [read_none hc hs]
      exact ⟨But.of p b hb, by simp, rfl, (hA.up hb).fine_more (by omega)⟩
    | some z =>
      obtain ⟨L, q⟩ := z
      cases L with
      | nil => exact open_begun w p b s m hm q hA hc hs hT
      | cons x L =>
        refine (open_old w p b s m x L q hA hc hs hT).mono fun e w' h => ?_
        have : openS s = (s, some { half := cntH s, next := q, L := x :: L, br := false }, 0) := by
          unfold openS
          rw [read_some hc hs]
          simp
        rw [this]
        exact h.more (by omega)
  · have h0 : s.B 0 ≠ mark0 0 := fun z => hc (.inl z)
    have h1 : s.B 0 ≠ mark0 1 := fun z => hc (.inr z)
    refine (open_no w p b s m hA h0 h1).mono ?_
    rintro e w' ⟨rfl, hb⟩
    rw [openS_none h0 h1]
    exact ⟨But.of p b hb, by simp, rfl, (hA.up hb).fine_more (by omega)⟩
end Go.Proofs.YtjffcgimdffkoaaGreatDoor

namespace Go.Proofs.YtjffcgimdffkoaaGreatDoor
open Go.RowKit

theorem recs_len (B : Nat → ByteArray) : ∀ (L : List (List UInt8)) (a q : Nat), Recs B a L q → a + L.length ≤ q
  | [], a, q, h => by unfold Recs at h; simp; omega
  | r :: L, a, q, h => by
    have := recs_len B L _ _ h.2.2
    have := nb_pos r.length
    simp; omega
theorem Inv.ok {n : Nat} {B : Nat → ByteArray} {j : JS} (h : Inv n B j) (ne : j.L ≠ []) : Ok n j := ⟨h.half, recs_len _ _ _ _ h.recs, h.end_, ne⟩
theorem run_pw : ∀ (wl : List (Nat × ByteArray)) (s : SS), s.pw = true → s.ld = false → (runW s wl).1.pw = true ∧ (runW s wl).1.ld = false
  | [], _, hp, hl => ⟨hp, hl⟩
  | (a, x) :: r, s, hp, hl => by
    have h : (wrS s a x).pw = true ∧ (wrS s a x).ld = false := by
      unfold wrS
      split
      · rw [if_neg (by rw [hp]; simp), if_neg (by rw [hl]; simp)]; exact ⟨hp, hl⟩
      · exact ⟨hp, hl⟩
    rw [runW_cons]
    split
    · exact run_pw r _ h.1 h.2
    · exact h
/-- a journal that tells something, and its store, with power -/
structure Pow (s : SS) (j : JS) : Prop where
  inv : Inv s.n s.B j
  pw : s.pw = true
  ld : s.ld = false
  ne : j.L ≠ []
theorem app_pow {s : SS} {j : JS} {m : Int} (b : List UInt8) (hs : Fine s m) (h : Pow s j) :
    (full b j.next (til s.n j.half) → appS s j b = (s, j, 4)) ∧ (¬ full b j.next (til s.n j.half) → ∃ s', appS s j b = (s', appJ j b, 0) ∧ Pow s' (appJ j b) ∧ s'.n = s.n) := by
  constructor
  · intro hf
    unfold appS
    rw [if_neg (by rw [h.inv.br]; simp), if_pos hf]
  · intro hf
    have st := app_step b hs h.inv
    have he : j.next + nb b.length ≤ til s.n j.half := by unfold full at hf; omega
    have ok : Okay s.n (layW s.B b j.next (til s.n j.half)) := lay_okay he (til_le _ _ h.inv.lo h.inv.half)
    have hr := run_power _ s ok h.pw h.ld
    have hp := run_pw (layW s.B b j.next (til s.n j.half)) s h.pw h.ld
    have e : appS s j b = ((runW s (layW s.B b j.next (til s.n j.half))).1, appJ j b, 0) := by
      unfold appS
      rw [if_neg (by rw [h.inv.br]; simp), if_neg hf, if_pos hr]
      rfl
    rw [e] at st
    exact ⟨_, e, ⟨(st.fine rfl).1, hp.1, hp.2, by simp [appJ]⟩, st.n⟩
theorem snap_pow {s : SS} {j : JS} {m : Int} (b : List UInt8) (hs : Fine s m) (h : Pow s j) :
    (full b (frm s.n (1 - j.half)) (til s.n (1 - j.half)) → snapS s j b = (s, j, 4)) ∧ (¬ full b (frm s.n (1 - j.half)) (til s.n (1 - j.half)) → ∃ s', snapS s j b = (s', snapJ s.n j b, 0) ∧ Pow s' (snapJ s.n j b) ∧ s'.n = s.n) := by
  constructor
  · intro hf
    unfold snapS
    rw [if_neg (by rw [h.inv.br]; simp), if_pos hf]
  · intro hf
    have st := snap_step b hs h.inv
    have he : frm s.n (1 - j.half) + nb b.length ≤ til s.n (1 - j.half) := by unfold full at hf; omega
    have ok : Okay s.n (snapW s j b) := by
      intro p hp
      unfold snapW at hp
      rcases List.mem_append.mp hp with hp | hp
      · exact lay_okay he (til_le _ _ h.inv.lo (by omega)) p hp
      · simp at hp
        rw [hp]
        exact ⟨by have := h.inv.lo; show 0 < s.n; omega, mark_size _⟩
    have hr := run_power _ s ok h.pw h.ld
    have hp := run_pw (snapW s j b) s h.pw h.ld
    have e : snapS s j b = ((runW s (snapW s j b)).1, snapJ s.n j b, 0) := by
      unfold snapS
      rw [if_neg (by rw [h.inv.br]; simp), if_neg hf, if_pos hr]
      rfl
    rw [e] at st
    exact ⟨_, e, ⟨(st.fine rfl).1, hp.1, hp.2, by simp [snapJ]⟩, st.n⟩
theorem open_pow {s : SS} {j : JS} (h : Pow s j) : openS s = (s, some j, 0) := open_inv h.inv h.ne
theorem new_pow {n : Nat} (h : 3 ≤ n) (h' : n ≤ 4096) : ∃ s, openS (newS n) = (s, some (appJ j0 []), 0) ∧ s.n = n ∧ Pow s (appJ j0 []) := by
  obtain ⟨s, e, hn, hi, hs⟩ := open_new h h'
  have hf : ¬ full [] j0.next (til (newS n).n j0.half) := by
    unfold full nb til frm hlf j0 newS
    simp
    omega
  refine ⟨s, e, hn, hi, ?_, ?_, by simp [appJ, j0]⟩
  · rw [hs]
    unfold appS
    rw [if_neg (by simp [j0]), if_neg hf]
    split
    · exact (run_pw _ _ rfl rfl).1
    · exact (run_pw _ _ rfl rfl).1
  · rw [hs]
    unfold appS
    rw [if_neg (by simp [j0]), if_neg hf]
    split
    · exact (run_pw _ _ rfl rfl).2
    · exact (run_pw _ _ rfl rfl).2
end Go.Proofs.YtjffcgimdffkoaaGreatDoor

namespace Go.Proofs.YtjffcgimdffkoaaGreatDoor
open Go.RowKit

set_option maxHeartbeats 1000000 in
theorem same_zero (a b : Option Addr) (c d : Nat) (w : World) :
    Calls Tryz.prog 23 #[.slice a 0 c, .slice b 0 d] w fun e w' => e = .returned (.bool true) ∧ w = w' := by
  go_enter Tryz.func23, Tryz.ntmps23
  go_wp2
  go_loopw [5] (fun i wr => i = .int .i64 0 ∧ Hid (w = wr)) (fun _ _ => 0)
  case atStart => exact ⟨rfl, rfl⟩
  case round =>
    obtain ⟨rfl, HI⟩ := hrel
    go_wp2
    go_ret
    exact ⟨rfl, HI.out⟩
theorem same_on (a b : Option Addr) (c d : Nat) (xs ys : List ByteArray) (w : World) (hX : StrA w a xs) (hY : StrA w b ys) (hN : xs.length ≤ 100000) :
    Calls Tryz.prog 23 #[.slice a xs.length c, .slice b ys.length d] w fun e w' => e = .returned (.bool (decide (xs = ys))) ∧ ∃ n, w' = w.drewN n := by
  by_cases hl : xs.length = ys.length
  · rcases hX with rfl | ⟨b1, o1, rfl, hX⟩
    · have hy : ys = [] := List.eq_nil_of_length_eq_zero (by simpa using hl.symm)
      subst hy
      exact (same_zero a b c d w).mono fun _ _ ⟨e, z⟩ => ⟨by rw [e]; rfl, 0, by rw [← z]; rfl⟩
    · rcases hY with rfl | ⟨b2, o2, rfl, hY⟩
      · have hx : xs = [] := List.eq_nil_of_length_eq_zero (by simpa using hl)
        subst hx
        exact (same_zero _ b c d w).mono fun _ _ ⟨e, z⟩ => ⟨by rw [e]; rfl, 0, by rw [← z]; rfl⟩
      · exact sames_any b1 o1 c b2 o2 d xs ys w hX hY hl hN
  · refine (same_other a b xs.length ys.length c d w hl).mono ?_
    rintro e w' ⟨rfl, rfl⟩
    exact ⟨by rw [decide_eq_false (fun z => hl (by rw [z]))], 0, rfl⟩

theorem Jv.drew {w : World} {J R p n : Nat} {v : Value} {j : JS} (h : Jv w J R v p n j) : Jv w.drew J R v p n j := h.up ⟨rfl, rfl, rfl, Nat.le_refl _, fun _ _ => rfl⟩
theorem Jv.drewN {w : World} {J R p n : Nat} {v : Value} {j : JS} (h : Jv w J R v p n j) (k : Nat) : Jv (w.drewN k) J R v p n j := h.up ⟨rfl, rfl, rfl, Nat.le_refl _, fun _ _ => rfl⟩
theorem StrA.drew {w : World} {a : Option Addr} {xs : List ByteArray} (h : StrA w a xs) : StrA w.drew a xs := h.up ⟨rfl, rfl, rfl, Nat.le_refl _, fun _ _ => rfl⟩
def Tol (w : World) (X : Nat) (T : ByteArray) (a : Option Addr) (n c : Nat) : Prop := w.cell? ⟨X, 0, none⟩ = some (.string T) ∧ w.cell? ⟨X, 1, none⟩ = some (.slice a n c)
/-- does the journal tell T and xs? -/
def tells (j : JS) (T : ByteArray) (xs : List ByteArray) : Bool := decide (T = str (j.L.headD [])) && decide (xs = j.L.tail.map str)

end Go.Proofs.YtjffcgimdffkoaaGreatDoor
