/- What should be kept: does a journal tell that? -/
import Derived.Test.YtjffcgimdffkoaaDoorJnX
import Derived.BigQuiet
namespace Go.Proofs.YtjffcgimdffkoaaDoor
open Go.RowKit

theorem recs_len (B : Nat → ByteArray) : ∀ (L : List (List UInt8)) (a q : Nat), Recs B a L q → a + L.length ≤ q
  | [], a, q, h => by unfold Recs at h; simp; omega
  | r :: L, a, q, h => by
    have := recs_len B L _ _ h.2.2
    have := nb_pos r.length
    simp; omega
theorem Inv.ok {n : Nat} {B : Nat → ByteArray} {j : JS} (h : Inv n B j) (ne : j.L ≠ []) : Ok n j := ⟨h.half, recs_len _ _ _ _ h.recs, h.end_, ne⟩
theorem run_pw : ∀ (wl : List (Nat × ByteArray)) (s : SS), s.pw = true → s.ld = false → (runW s wl).1.pw = true ∧ (runW s wl).1.ld = false
  | [], _, hp, hl => ⟨hp, hl⟩
  | (a, x) :: r, s, hp, hl => by
    have h : (wrS s a x).pw = true ∧ (wrS s a x).ld = false := by
      unfold wrS
      split
      · rw [if_neg (by rw [hp]; simp), if_neg (by rw [hl]; simp)]; exact ⟨hp, hl⟩
      · exact ⟨hp, hl⟩
    rw [runW_cons]
    split
    · exact run_pw r _ h.1 h.2
    · exact h
/-- a journal that tells something, and its store, with power -/
structure Pow (s : SS) (j : JS) : Prop where
  inv : Inv s.n s.B j
  pw : s.pw = true
  ld : s.ld = false
  ne : j.L ≠ []
theorem app_pow {s : SS} {j : JS} {m : Int} (b : List UInt8) (hs : Fine s m) (h : Pow s j) :
    (full b j.next (til s.n j.half) → appS s j b = (s, j, 4)) ∧ (¬ full b j.next (til s.n j.half) → ∃ s', appS s j b = (s', appJ j b, 0) ∧ Pow s' (appJ j b) ∧ s'.n = s.n) := by
  constructor
  · intro hf
    unfold appS
    rw [if_neg (by rw [h.inv.br]; simp), if_pos hf]
  · intro hf
    have st := app_step b hs h.inv
    have he : j.next + nb b.length ≤ til s.n j.half := by unfold full at hf; omega
    have ok : Okay s.n (layW s.B b j.next (til s.n j.half)) := lay_okay he (til_le _ _ h.inv.lo h.inv.half)
    have hr := run_power _ s ok h.pw h.ld
    have hp := run_pw (layW s.B b j.next (til s.n j.half)) s h.pw h.ld
    have e : appS s j b = ((runW s (layW s.B b j.next (til s.n j.half))).1, appJ j b, 0) := by
      unfold appS
      rw [if_neg (by rw [h.inv.br]; simp), if_neg hf, if_pos hr]
      rfl
    rw [e] at st
    exact ⟨_, e, ⟨(st.fine rfl).1, hp.1, hp.2, by simp [appJ]⟩, st.n⟩
theorem snap_pow {s : SS} {j : JS} {m : Int} (b : List UInt8) (hs : Fine s m) (h : Pow s j) :
    (full b (frm s.n (1 - j.half)) (til s.n (1 - j.half)) → snapS s j b = (s, j, 4)) ∧ (¬ full b (frm s.n (1 - j.half)) (til s.n (1 - j.half)) → ∃ s', snapS s j b = (s', snapJ s.n j b, 0) ∧ Pow s' (snapJ s.n j b) ∧ s'.n = s.n) := by
  constructor
  · intro hf
    unfold snapS
    rw [if_neg (by rw [h.inv.br]; simp), if_pos hf]
  · intro hf
    have st := snap_step b hs h.inv
    have he : frm s.n (1 - j.half) + nb b.length ≤ til s.n (1 - j.half) := by unfold full at hf; omega
    have ok : Okay s.n (snapW s j b) := by
      intro p hp
      unfold snapW at hp
      rcases List.mem_append.mp hp with hp | hp
      · exact lay_okay he (til_le _ _ h.inv.lo (by omega)) p hp
      · simp at hp
        rw [hp]
        exact ⟨by have := h.inv.lo; show 0 < s.n; omega, mark_size _⟩
    have hr := run_power _ s ok h.pw h.ld
    have hp := run_pw (snapW s j b) s h.pw h.ld
    have e : snapS s j b = ((runW s (snapW s j b)).1, snapJ s.n j b, 0) := by
      unfold snapS
      rw [if_neg (by rw [h.inv.br]; simp), if_neg hf, if_pos hr]
      rfl
    rw [e] at st
    exact ⟨_, e, ⟨(st.fine rfl).1, hp.1, hp.2, by simp [snapJ]⟩, st.n⟩
theorem open_pow {s : SS} {j : JS} (h : Pow s j) : openS s = (s, some j, 0) := open_inv h.inv h.ne
theorem new_pow {n : Nat} (h : 3 ≤ n) (h' : n ≤ 4096) : ∃ s, openS (newS n) = (s, some (appJ j0 []), 0) ∧ s.n = n ∧ Pow s (appJ j0 []) := by
  obtain ⟨s, e, hn, hi, hs⟩ := open_new h h'
  have hf : ¬ full [] j0.next (til (newS n).n j0.half) := by
    unfold full nb til frm hlf j0 newS
    simp
    omega
  refine ⟨s, e, hn, hi, ?_, ?_, by simp [appJ, j0]⟩
  · rw [hs]
    unfold appS
    rw [if_neg (by simp [j0]), if_neg hf]
    split
    · exact (run_pw _ _ rfl rfl).1
    · exact (run_pw _ _ rfl rfl).1
  · rw [hs]
    unfold appS
    rw [if_neg (by simp [j0]), if_neg hf]
    split
    · exact (run_pw _ _ rfl rfl).2
    · exact (run_pw _ _ rfl rfl).2
end Go.Proofs.YtjffcgimdffkoaaDoor

namespace Go.Proofs.YtjffcgimdffkoaaDoor
open Go.RowKit

set_option maxHeartbeats 1000000 in
theorem same_zero (a b : Option Addr) (c d : Nat) (w : World) :
    Calls Tryd.prog 17 #[.slice a 0 c, .slice b 0 d] w fun e w' => e = .returned (.bool true) ∧ w = w' := by
  go_enter Tryd.func17, Tryd.ntmps17
  go_wp2
  go_loopw [5] (fun i wr => i = .int .i64 0 ∧ Hid (w = wr)) (fun _ _ => 0)
  case atStart => exact ⟨rfl, rfl⟩
  case round =>
    obtain ⟨rfl, HI⟩ := hrel
    go_wp2
    go_ret
    exact ⟨rfl, HI.out⟩
theorem same_on (a b : Option Addr) (c d : Nat) (xs ys : List ByteArray) (w : World) (hX : StrA w a xs) (hY : StrA w b ys) (hN : xs.length ≤ 100000) :
    Calls Tryd.prog 17 #[.slice a xs.length c, .slice b ys.length d] w fun e w' => e = .returned (.bool (decide (xs = ys))) ∧ ∃ n, w' = w.drewN n := by
  by_cases hl : xs.length = ys.length
  · rcases hX with rfl | ⟨b1, o1, rfl, hX⟩
    · have hy : ys = [] := List.eq_nil_of_length_eq_zero (by simpa using hl.symm)
      subst hy
      exact (same_zero a b c d w).mono fun _ _ ⟨e, z⟩ => ⟨by rw [e]; rfl, 0, by rw [← z]; rfl⟩
    · rcases hY with rfl | ⟨b2, o2, rfl, hY⟩
      · have hx : xs = [] := List.eq_nil_of_length_eq_zero (by simpa using hl)
        subst hx
        exact (same_zero _ b c d w).mono fun _ _ ⟨e, z⟩ => ⟨by rw [e]; rfl, 0, by rw [← z]; rfl⟩
      · exact sames_any b1 o1 c b2 o2 d xs ys w hX hY hl hN
  · refine (same_other a b xs.length ys.length c d w hl).mono ?_
    rintro e w' ⟨rfl, rfl⟩
    exact ⟨by rw [decide_eq_false (fun z => hl (by rw [z]))], 0, rfl⟩

theorem Jv.drew {w : World} {J R p n : Nat} {v : Value} {j : JS} (h : Jv w J R v p n j) : Jv w.drew J R v p n j := h.up ⟨rfl, rfl, rfl, Nat.le_refl _, fun _ _ => rfl⟩
theorem Jv.drewN {w : World} {J R p n : Nat} {v : Value} {j : JS} (h : Jv w J R v p n j) (k : Nat) : Jv (w.drewN k) J R v p n j := h.up ⟨rfl, rfl, rfl, Nat.le_refl _, fun _ _ => rfl⟩
theorem StrA.drew {w : World} {a : Option Addr} {xs : List ByteArray} (h : StrA w a xs) : StrA w.drew a xs := h.up ⟨rfl, rfl, rfl, Nat.le_refl _, fun _ _ => rfl⟩
def Tol (w : World) (X : Nat) (T : ByteArray) (a : Option Addr) (n c : Nat) : Prop := w.cell? ⟨X, 0, none⟩ = some (.string T) ∧ w.cell? ⟨X, 1, none⟩ = some (.slice a n c)
theorem Has.tol {w : World} {X : Nat} {T : ByteArray} {a : Option Addr} {n c : Nat} (h : Has w X 37 #[.string T, .slice a n c]) : Tol w X T a n c := ⟨h.cell 0, h.cell 1⟩
/-- does the journal tell T and xs? -/
def tells (j : JS) (T : ByteArray) (xs : List ByteArray) : Bool := decide (T = str (j.L.headD [])) && decide (xs = j.L.tail.map str)

set_option maxRecDepth 100000 in
set_option maxHeartbeats 4000000 in
theorem is_any (w : World) (J R : Nat) (v : Value) (p n : Nat) (j : JS) (T : ByteArray) (a : Option Addr) (c : Nat) (xs : List ByteArray) (h : Jv w J R v p n j) (ok : Ok n j) (hn : n ≤ 4096) (hX : StrA w a xs) :
    Calls Tryd.prog 12 #[.agg #[.string T, .slice a xs.length c], .pointer (some ⟨J, 0, none⟩)] w fun e w' => e = .returned (.bool (tells j T xs)) ∧ Below w.heap.size w w' := by
  obtain ⟨Y, hY⟩ : ∃ Y, Y = str (j.L.headD []) := ⟨_, rfl⟩
  obtain ⟨ys, hys⟩ : ∃ ys, ys = j.L.tail.map str := ⟨_, rfl⟩
  have HT : Hid (∀ W : World, Jv W J R v p n j → Calls Tryd.prog 14 #[.pointer (some ⟨J, 0, none⟩)] W fun e w' => e = .returned (.string Y) ∧ W = w') := fun W q => by rw [hY]; exact text_any W J R v p n j q
  have HRc : Hid (∀ W : World, Jv W J R v p n j → Calls Tryd.prog 15 #[.pointer (some ⟨J, 0, none⟩)] W (Strl W W.heap.size ys)) := fun W q => by rw [hys]; exact records_any W J R v p n j q ok hn
  have hylen : ys.length ≤ 100000 := by have := ok.len hn; rw [hys]; simp; omega
  have HS : Hid (∀ (W : World) (a' : Option Addr) (c' : Nat), StrA W a' ys → StrA W a xs → Calls Tryd.prog 17 #[.slice a' ys.length c', .slice a xs.length c] W fun e w' => e = .returned (.bool (decide (xs = ys))) ∧ ∃ n, w' = W.drewN n) := fun W a' c' q r => by
    have := same_on a' a c' c ys xs W q r hylen
    rw [show decide (xs = ys) = decide (ys = xs) by by_cases z : xs = ys <;> simp [z, eq_comm]]
    exact this
  have ht : tells j T xs = (decide (T = Y) && decide (xs = ys)) := by unfold tells; rw [hY, hys]
  rw [ht]
  obtain ⟨l, hl⟩ : ∃ l, l = xs.length := ⟨_, rfl⟩
  rw [← hl] at HS ⊢
  have hb := boxed w (.cells #[.string T, .slice a l c] 37)
  have hbox := Has.fresh w 37 #[.string T, .slice a l c]
  obtain ⟨W0, hW⟩ : ∃ W0, W0 = w.alloc (.cells #[.string T, .slice a l c] 37) := ⟨_, rfl⟩
  obtain ⟨X, hXe⟩ : ∃ X, X = w.heap.size := ⟨_, rfl⟩
  rw [← hW] at hb hbox
  rw [← hXe] at hbox
  have J0 := Lib.hid (h.up hb)
  have X0 := Lib.hid (hX.up hb)
  have BX := Lib.hid hbox
  have HB := Lib.hid hb
  have HW := Lib.hid hW
  have HXe := Lib.hid hXe
  have hc := hbox.tol
  unfold Tol at hc
  obtain ⟨c0, c1⟩ := hc
  clear h ok hX hY hys ht hl hb hbox hW hXe hylen
  by_cases hT : Y = T
  · have e1 : (Y.toList == T.toList) = true := by rw [strs_eq, decide_eq_true hT]
    have HTT := Lib.hid hT
    have e2 : Hid ((decide (T = Y) && decide (xs = ys)) = decide (xs = ys)) := by
      show _ = _
      rw [decide_eq_true hT.symm, Bool.true_and]
    obtain ⟨D, hD⟩ : ∃ D, D = decide (xs = ys) := ⟨_, rfl⟩
    rw [← hD] at HS
    have HDD := Lib.hid hD
    clear hT hD
    go_enter Tryd.func12, Tryd.ntmps12
    go_wp2_with fail
    rw [← HW.out, ← HXe.out]
    go_region_held3 (fun w' => w'.cell? ⟨X, 0, none⟩ = some (.string T) ∧ w'.cell? ⟨X, 1, none⟩ = some (.slice a l c))
      ((change Tol _ X T a l c; with_reducible (first | exact BX.out.drew1.tol | exact k3.out.tol | exact k4.out.tol)))
      (first | (go_at_call 14; ((with_reducible refine (HT.out _ J0.out.drew).mono ?_); rintro e w1 ⟨rfl, rfl⟩)) | (go_at_call 15; ((with_reducible refine (HRc.out _ J0.out.drew).mono ?_); rintro e w2 ⟨a', c', rfl, g1, g2, g3⟩; have k1 := Lib.hid g1; have k2 := Lib.hid g3; have k3 := Lib.hid (BX.out.drew1.up g3); clear g1 g2 g3)) | (go_at_call 17; ((with_reducible refine (HS.out _ _ _ k1.out (X0.out.drew.up k2.out)).mono ?_); rintro e w3 ⟨rfl, nq, rfl⟩; have k4 := Lib.hid (k3.out.drewN nq))))
    all_goals
      have BB := Lib.hid (lots (blw HB.out 1) k2.out)
      clear k1 k3 k4 c0 c1
      go_wp2
      go_ret
      rw [e2.out, ← HDD.out]
      exact ⟨rfl, blw BB.out nq⟩
  · have e1 : (Y.toList == T.toList) = false := by rw [strs_eq, decide_eq_false hT]
    have e2 : Hid ((decide (T = Y) && decide (xs = ys)) = false) := by
      show _ = _
      rw [decide_eq_false (fun z => hT z.symm), Bool.false_and]
    clear hT HRc HS
    go_enter Tryd.func12, Tryd.ntmps12
    go_wp2_with fail
    rw [← HW.out, ← HXe.out]
    go_quiet ((go_at_call 14; with_reducible exact quiet_left (HT.out _ (J0.out.drewN _))))
    go_wp2
    go_ret
    rw [e2.out]
    exact ⟨rfl, blw HB.out _⟩
end Go.Proofs.YtjffcgimdffkoaaDoor
