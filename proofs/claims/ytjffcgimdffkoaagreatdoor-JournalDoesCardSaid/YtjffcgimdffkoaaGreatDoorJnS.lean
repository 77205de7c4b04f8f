/- A half's records. -/
import Derived.Test.YtjffcgimdffkoaaGreatDoorJnR
namespace Go.Proofs.YtjffcgimdffkoaaGreatDoor
open Go.RowKit

theorem scan_step (B : Nat → ByteArray) (e f a : Nat) : scan B e (f + 1) a = if e ≤ a then some ([], a) else if (recA B a e).2.2 ≠ 0 then none else if (recA B a e).2.1 = 0 then some ([], a) else
    match scan B e f (a + (recA B a e).2.1) with | none => none | some (l, q) => some ((recA B a e).1 :: l, q) := by
  have hp := nb_pos (headA (bl B a)).2.1
  rw [scan]
  unfold recA
  by_cases h1 : e ≤ a
  · rw [if_pos h1, if_pos h1]
  · rw [if_neg h1, if_neg h1]
    by_cases h2 : (headA (bl B a)).2.2 ≠ 0
    · simp [h2]
    · simp only [if_neg h2]
      by_cases h3 : (headA (bl B a)).1 = false
      · simp [h3]
      · simp only [if_neg h3]
        by_cases h4 : e < a + nb (headA (bl B a)).2.1
        · simp [h4]
        · simp only [if_neg h4]
          by_cases h5 : (joinA (blks B a (nb (headA (bl B a)).2.1))).2 ≠ 0
          · simp [h5]
          · simp only [if_neg h5]
            simp [show ¬ nb (headA (bl B a)).2.1 = 0 by omega]
            cases scan B e f (a + nb (headA (bl B a)).2.1) <;> rfl
theorem recA_err (B : Nat → ByteArray) (q e : Nat) : (recA B q e).2.2 = 0 ∨ (recA B q e).2.2 = 8 := by
  unfold recA
  repeat' split
  all_goals simp
theorem recA_le (B : Nat → ByteArray) (q e : Nat) (h : q ≤ e) : q + (recA B q e).2.1 ≤ e := by
  unfold recA
  split
  · simpa
  · split
    · simpa
    · split
      · simpa
      · split
        · simpa
        · next h4 _ => simp only; omega
/-- what is told of the records from q on, behind those that are told -/
def goOn (L : List (List UInt8)) : Option (List (List UInt8) × Nat) → Option (List (List UInt8) × Nat)
  | none => none
  | some (l, q) => some (L ++ l, q)

/-- behind records: the rows, and where they end; or why not -/
def RecsR (w : World) (F e : Nat) (S : Option (List (List UInt8) × Nat)) (r : Ending) (w' : World) : Prop :=
  Below w.heap.size w w' ∧ match S with
  | none => r = .returned (.tuple #[.slice none 0 0, .int .i64 0, .int .i64 8])
  | some (L, q) => F + L.length ≤ q ∧ q ≤ e ∧ ∃ R v, w.heap.size ≤ R ∧ R < w'.heap.size ∧ r = .returned (.tuple #[v, .int .i64 ((q - F : Nat) : Int), .int .i64 0]) ∧ Rw w' R v (L.map str)

theorem Rw.lives {w : World} {B R : Nat} {v : Value} {xs : List ByteArray} (h : Rw w R v xs) (hB : B ≤ R) (hx : B < w.heap.size) : ∃ R', B ≤ R' ∧ R' < w.heap.size ∧ Rw w R' v xs := by
  rcases h with ⟨h1, h2⟩ | ⟨o, c, cs, h1, h2, h3⟩
  · exact ⟨B, Nat.le_refl _, hx, .inl ⟨h1, h2⟩⟩
  · exact ⟨R, hB, h2.lt, .inr ⟨o, c, cs, h1, h2, h3⟩⟩
structure RecI (w : World) (p b X h n : Nat) (s : SS) (m : Int) (a : Nat) (v : Value) (wr : World) : Prop where
  at_ : At wr p b s m
  box : Has wr X 60 (hv p h n)
  bel : Below w.heap.size w wr
  lo : w.heap.size ≤ X
  lx : w.heap.size < wr.heap.size
  tell : ∃ (L : List (List UInt8)) (R f : Nat), w.heap.size ≤ R ∧ (R ≠ X ∧ R ≠ p ∧ R ≠ b) ∧ Rw wr R v (L.map str) ∧ L.length ≤ a ∧ (1 + h * n + n) - (1 + h * n + a) < f ∧
    scan s.B (1 + h * n + n) (s.n + 1) (1 + h * n) = goOn L (scan s.B (1 + h * n + n) f (1 + h * n + a))

set_option maxRecDepth 100000 in
set_option maxHeartbeats 2000000 in
theorem hrecs_any (w : World) (p b h n : Nat) (s : SS) (m : Int) (hA : At w p b s m) (hh : h ≤ 1) (hn : n ≤ 4096) (hf : 1 + h * n + n ≤ s.n) (hT : Tb w) :
    Calls Tryz.prog 28 #[.agg (hv p h n)] w (RecsR w (1 + h * n) (1 + h * n + n) (scan s.B (1 + h * n + n) (s.n + 1) (1 + h * n))) := by
  have I0 : RecI w p b w.heap.size h n s m 0 (.slice none 0 0) (w.alloc (.cells (hv p h n) 60)) :=
    ⟨hA.up (boxed _ _), Has.fresh _ _ _, boxed _ _, Nat.le_refl _, by simp, [], w.heap.size + 1, s.n + 1, by omega, by have := hA.lt; omega, .inl ⟨rfl, rfl⟩, by simp, by omega, by
      rw [Nat.add_zero]
      cases scan s.B (1 + h * n + n) (s.n + 1) (1 + h * n) <;> rfl⟩
  have HC : Hid (∀ (W : World) (a : Nat), a < n → At W p b s m → Below w.heap.size w W → Calls Tryz.prog 48 #[.agg #[.pointer (some ⟨p, 0, none⟩), .int .i64 (h : Int), .int .i64 (n : Int)], .int .i64 (a : Int)] W fun r w' => r = .returned (recV (recA s.B (1 + h * n + a) (1 + h * n + n))) ∧ Below W.heap.size W w') := fun W a ha q r =>
    hrec_any W p b h n a s m q hh hn ha hf (hT.up r)
  clear hA hT hf
  unfold hv at I0
  obtain ⟨W0, hW⟩ : ∃ W0, W0 = w.alloc (.cells #[.pointer (some ⟨p, 0, none⟩), .int .i64 (h : Int), .int .i64 (n : Int)] 60) := ⟨_, rfl⟩
  obtain ⟨X, hX⟩ : ∃ X, X = w.heap.size := ⟨_, rfl⟩
  have I1 : RecI w p b X h n s m 0 (.slice none 0 0) W0 := by rw [hW, hX]; exact I0
  have HI0 := Lib.hid I1
  have HW := Lib.hid hW
  have HX := Lib.hid hX
  clear I0 I1 hW hX hh
  unfold hv
  go_enter Tryz.func28, Tryz.ntmps28
  go_wp2_with fail
  rw [← HW.out, ← HX.out]
  go_loopw [6, 5] (fun va v wr => ∃ a : Nat, a ≤ n ∧ va = .int .i64 (a : Int) ∧ Hid (RecI w p b X h n s m a v wr)) (fun va _ _ => n - (intOf va).toNat)
  case atStart => exact ⟨0, Nat.zero_le _, rfl, HI0⟩
  case round =>
    obtain ⟨a, ha, rfl, HI⟩ := hrel
    clear HI0
    have B3 := HI.out.box.box3
    unfold Box3 at B3
    obtain ⟨c0, c1, c2⟩ := B3
    by_cases hlt : a < n
    · have hcc := HC.out wr a hlt HI.out.at_ HI.out.bel
      obtain ⟨r0, r1, r2, hrr⟩ : ∃ r0 r1 r2, recA s.B (1 + h * n + a) (1 + h * n + n) = (r0, r1, r2) := ⟨_, _, _, rfl⟩
      rw [hrr] at hcc
      have hcc' : Calls Tryz.prog 48 #[.agg #[.pointer (some ⟨p, 0, none⟩), .int .i64 (h : Int), .int .i64 (n : Int)], .int .i64 (a : Int)] wr fun r w' => r = .returned (.tuple #[.string (str r0), .int .i64 (r1 : Int), .int .i64 (r2 : Int)]) ∧ Below wr.heap.size wr w' := hcc
      have HCC := Lib.hid hcc'
      have hr8 : r2 = 0 ∨ r2 = 8 := by have := recA_err s.B (1 + h * n + a) (1 + h * n + n); rw [hrr] at this; exact this
      have hle : a + r1 ≤ n := by have := recA_le s.B (1 + h * n + a) (1 + h * n + n) (by omega); rw [hrr] at this; simp only at this; omega
      obtain ⟨L, R, f, t1, t2, t3, t4, t5, t6⟩ := HI.out.tell
      obtain ⟨f, rfl⟩ : ∃ g, f = g + 1 := ⟨f - 1, by omega⟩
      rw [scan_step s.B (1 + h * n + n) f (1 + h * n + a), if_neg (by omega), hrr] at t6
      simp only at t6
      by_cases h2 : r2 = 0
      · have h20 : ((r2 : Int) != 0) = false := by rw [h2]; rfl
        by_cases h1 : r1 = 0
        · have h10 : ((r1 : Int) == 0) = true := by rw [h1]; rfl
          rw [if_neg (by simp [h2]), if_pos h1] at t6
          have HT := Lib.hid (And.intro t1 (And.intro t2 (And.intro t3 (And.intro t4 t6))))
          clear hcc hcc' hr8 hrr t1 t2 t3 t4 t5 t6 h1 h2
          go_wp2_with fail
          refine HCC.out.mono ?_
          rintro e w1 ⟨rfl, hb1⟩
          have BB := Lib.hid (And.intro (lots HI.out.bel hb1) hb1)
          clear hb1
          go_wp2
          refine bodyPost_ret (v := .tuple #[u5, .int .i64 (a : Int), .int .i64 0]) (by simp [results, Tryz.results28, go_sem]) rfl ⟨BB.out.1, ?_⟩
          obtain ⟨t1, t2, t3, t4, t6⟩ := HT.out
          rw [t6]
          show 1 + h * n + (L ++ []).length ≤ 1 + h * n + a ∧ 1 + h * n + a ≤ 1 + h * n + n ∧ _
          rw [List.append_nil]
          obtain ⟨R2, z1, z2, z3⟩ := (t3.up BB.out.2).lives t1 (Nat.lt_of_lt_of_le HI.out.lx BB.out.2.size)
          exact ⟨by omega, by omega, R2, u5, z1, z2, by rw [show 1 + h * n + a - (1 + h * n) = a by omega], z3⟩
        · have h10 : ((r1 : Int) == 0) = false := by simp; omega
          rw [if_neg (by simp [h2]), if_neg h1] at t6
          have e1 : IntKind.i64.wrap ((a : Int) + (r1 : Int)) = (a : Int) + (r1 : Int) := IntWalk.i64_in _ (by omega)
          have HT := Lib.hid (And.intro t1 (And.intro t2 (And.intro t3 (And.intro t4 (And.intro t5 t6)))))
          have H1 := Lib.hid h1
          clear hcc hcc' hr8 hrr t1 t2 t3 t4 t5 t6 h1 h2
          go_wp2_with fail
          refine HCC.out.mono ?_
          rintro e w1 ⟨rfl, hb1⟩
          obtain ⟨x, hx⟩ : ∃ x, x = str r0 := ⟨_, rfl⟩
          rw [← hx]
          have hal := boxed w1 (.cells #[.string x] 9)
          obtain ⟨W4, hW4⟩ : ∃ W4, W4 = w1.alloc (.cells #[.string x] 9) := ⟨_, rfl⟩
          have y4 : W4.cell? ⟨w1.heap.size, 0, none⟩ = some (.string x) := by rw [hW4]; exact (Has.fresh w1 9 #[.string x]).cell 0
          rw [← hW4] at hal
          have hb14 := lots hb1 hal
          have hs4 : W4.heap.size = w1.heap.size + 1 := by rw [hW4]; simp
          have r4 := HT.out.2.2.1.up hb14
          obtain ⟨R', v', w5, hrun, hRR, hRlt, r5, t5⟩ := r4.app 49 (by have := HT.out.2.2.2.1; simp; omega) w1.heap.size x y4
          have HN : Hid (RecI w p b X h n s m (a + r1) v' w5) := by
            obtain ⟨t1, t2, t3, t4, t5', t6⟩ := HT.out
            have b4 : Below w.heap.size w W4 := lots HI.out.bel hb14
            have x4 := HI.out.box.up hb14
            have a4 := HI.out.at_.up hb14
            have hRp := t2
            have hlt4 := a4.lt
            have hlX := x4.lt
            have hw5 : Below w.heap.size w w5 := t5.past b4 t1
            obtain ⟨cs, hcs, hls⟩ := a4.st.row
            refine ⟨⟨⟨t5.has a4.st.head (fun z => hRp.2.1 z.symm), cs, t5.has hcs (fun z => hRp.2.2 z.symm), hls⟩, a4.fine⟩, t5.has x4 (fun z => hRp.1 z.symm), hw5, HI.out.lo, by have := t5.size; have := hal.size; have := hb1.size; have := HI.out.lx; omega, L ++ [r0], R', f, ?_, ?_, ?_, ?_, ?_, ?_⟩
            · rcases hRR with rfl | z
              · exact t1
              · have := b4.size; omega
            · rcases hRR with rfl | z
              · exact t2
              · omega
            · rw [List.map_append, List.map_singleton, ← hx]; exact r5
            · have := H1.out; simp; omega
            · have := H1.out; omega
            · rw [t6, show 1 + h * n + (a + r1) = 1 + h * n + a + r1 by omega]
              cases scan s.B (1 + h * n + n) f (1 + h * n + a + r1) with
              | none => rfl
              | some z => simp [goOn]
          have HRun := Lib.hid hrun
          have HW4 := Lib.hid hW4
          clear hb1 hx hal hW4 y4 hb14 hs4 r4 hrun hRR hRlt r5 t5 HI HT
          go_wp2_with (first | (at_builtin; rw [← HW4.out]; refine Lib.wpList_append_run _ rfl (.tmp 26) (.tmp 28) 49 49 rfl u5 (.slice (some ⟨w1.heap.size, 0, none⟩) 1 1) rfl rfl v' w5 HRun.out ?_))
          go_roundw
          case rel => exact ⟨a + r1, hle, by go_num, HN⟩
          case measure => have := H1.out; simp [intOf]; omega
      · have h20 : ((r2 : Int) != 0) = true := by simp; omega
        obtain rfl : r2 = 8 := by omega
        rw [if_pos (by simp)] at t6
        have HT := Lib.hid t6
        clear hcc hcc' hr8 hrr t1 t2 t3 t4 t5 t6 h2
        go_wp2_with fail
        refine HCC.out.mono ?_
        rintro e w1 ⟨rfl, hb1⟩
        have BB := Lib.hid (lots HI.out.bel hb1)
        clear hb1
        go_wp2
        refine bodyPost_ret (v := .tuple #[.slice none 0 0, .int .i64 0, .int .i64 8]) (by simp [results, Tryz.results28, go_sem]) rfl ⟨BB.out, ?_⟩
        rw [HT.out]
        rfl
    · obtain rfl : a = n := by omega
      obtain ⟨L, R, f, t1, t2, t3, t4, t5, t6⟩ := HI.out.tell
      obtain ⟨f, rfl⟩ : ∃ g, f = g + 1 := ⟨f - 1, by omega⟩
      rw [scan_step s.B (1 + h * a + a) f (1 + h * a + a), if_pos (Nat.le_refl _)] at t6
      have HT := Lib.hid (And.intro t1 (And.intro t2 (And.intro t3 (And.intro t4 t6))))
      clear t1 t2 t3 t4 t5 t6
      go_wp2
      refine bodyPost_ret (v := .tuple #[u5, .int .i64 (a : Int), .int .i64 0]) (by simp [results, Tryz.results28, go_sem]) rfl ⟨HI.out.bel, ?_⟩
      obtain ⟨t1, t2, t3, t4, t6⟩ := HT.out
      rw [t6]
      show 1 + h * a + (L ++ []).length ≤ 1 + h * a + a ∧ 1 + h * a + a ≤ 1 + h * a + a ∧ _
      rw [List.append_nil]
      obtain ⟨R2, z1, z2, z3⟩ := t3.lives t1 HI.out.lx
      exact ⟨by omega, Nat.le_refl _, R2, u5, z1, z2, by rw [show 1 + h * a + a - (1 + h * a) = a by omega], z3⟩
end Go.Proofs.YtjffcgimdffkoaaGreatDoor
