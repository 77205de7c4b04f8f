/- A journal opened, whatever its store. -/
import Derived.Test.YtjffcgimdffkoaaGreatDoorJnU
namespace Go.Proofs.YtjffcgimdffkoaaGreatDoor
open Go.RowKit

theorem scan_nil (B : Nat → ByteArray) (e : Nat) : ∀ (f a q : Nat), scan B e f a = some ([], q) → q = a
  | 0, _, _, h => by simp [scan] at h
  | f + 1, a, q, h => by
    rw [scan_step] at h
    split at h
    · injection h with h; injection h with _ h; exact h.symm
    · split at h
      · cases h
      · split at h
        · injection h with h; injection h with _ h; exact h.symm
        · split at h
          · cases h
          · injection h with h; injection h with h _; cases h
/-- which half counts, if one does -/
def cntH (s : SS) : Nat := if s.B 0 = mark0 0 then 0 else 1
theorem cntH_le (s : SS) : cntH s ≤ 1 := by unfold cntH; split <;> omega
theorem openS_none {s : SS} (h : s.B 0 ≠ mark0 0) (h' : s.B 0 ≠ mark0 1) : openS s = (s, none, 8) := by
  unfold openS readS; rw [if_pos ⟨h, h'⟩]
theorem read_none {s : SS} (h : s.B 0 = mark0 0 ∨ s.B 0 = mark0 1) (hs : scan s.B (til s.n (cntH s)) (s.n + 1) (frm s.n (cntH s)) = none) : openS s = (s, none, 8) := by
  unfold openS readS
  rw [if_neg (by rintro ⟨a, b⟩; rcases h with h | h; exact a h; exact b h)]
  unfold cntH at hs
  rw [hs]
theorem read_some {s : SS} {L : List (List UInt8)} {q : Nat} (h : s.B 0 = mark0 0 ∨ s.B 0 = mark0 1) (hs : scan s.B (til s.n (cntH s)) (s.n + 1) (frm s.n (cntH s)) = some (L, q)) :
    readS s = some { half := cntH s, next := q, L := L, br := false } := by
  unfold readS
  rw [if_neg (by rintro ⟨a, b⟩; rcases h with h | h; exact a h; exact b h)]
  unfold cntH at hs ⊢
  rw [hs]

set_option maxRecDepth 100000 in
set_option maxHeartbeats 2000000 in
theorem open_no (w : World) (p b : Nat) (s : SS) (m : Int) (hA : At w p b s m) (h0 : s.B 0 ≠ mark0 0) (h1 : s.B 0 ≠ mark0 1) :
    Calls Tryz.prog 8 #[.pointer (some ⟨p, 0, none⟩)] w fun e w' => e = .returned (.tuple #[.pointer none, .int .i64 8]) ∧ Below w.heap.size w w' := by
  have HC : Hid (Calls Tryz.prog 27 #[.pointer (some ⟨p, 0, none⟩)] w fun e w' => e = .returned (.tuple #[.agg #[.pointer none, .int .i64 0, .int .i64 0], .int .i64 8]) ∧ Below w.heap.size w w') := by
    refine (counting_any w p b s m hA).mono ?_
    rintro e w' ⟨hb, h | h⟩
    · rcases h.1 with z | z
      · exact absurd z h0
      · exact absurd z h1
    · exact ⟨h.2.2, hb⟩
  clear hA h0 h1
  go_enter Tryz.func8, Tryz.ntmps8
  go_wp2_with fail
  refine HC.out.mono ?_
  rintro e w1 ⟨rfl, hb1⟩
  have HB := Lib.hid hb1
  clear hb1
  go_wp2
  go_ret2
  exact ⟨rfl, HB.out.alloc HB.out.size _⟩

set_option maxRecDepth 100000 in
set_option maxHeartbeats 2000000 in
theorem open_bad (w : World) (p b : Nat) (s : SS) (m : Int) (hA : At w p b s m) (hc : s.B 0 = mark0 0 ∨ s.B 0 = mark0 1) (hs : scan s.B (til s.n (cntH s)) (s.n + 1) (frm s.n (cntH s)) = none) (hT : Tb w) :
    Calls Tryz.prog 8 #[.pointer (some ⟨p, 0, none⟩)] w fun e w' => e = .returned (.tuple #[.pointer none, .int .i64 8]) ∧ Below w.heap.size w w' := by
  obtain ⟨h, hh⟩ : ∃ h, h = cntH s := ⟨_, rfl⟩
  obtain ⟨k, hk⟩ : ∃ k, k = hlf s.n := ⟨_, rfl⟩
  have hle : h ≤ 1 := by rw [hh]; exact cntH_le s
  have HC : Hid (Calls Tryz.prog 27 #[.pointer (some ⟨p, 0, none⟩)] w fun e w' => e = .returned (.tuple #[.agg #[.pointer (some ⟨p, 0, none⟩), .int .i64 (h : Int), .int .i64 (k : Int)], .int .i64 0]) ∧ Below w.heap.size w w') := by
    refine (counting_any w p b s m hA).mono ?_
    rintro e w' ⟨hb, q | q⟩
    · rw [hh, hk]; exact ⟨q.2, hb⟩
    · rcases hc with z | z
      · exact absurd z q.1
      · exact absurd z q.2.1
  have HR : Hid (∀ W : World, Below w.heap.size w W → Calls Tryz.prog 28 #[.agg #[.pointer (some ⟨p, 0, none⟩), .int .i64 (h : Int), .int .i64 (k : Int)]] W fun e w' => e = .returned (.tuple #[.slice none 0 0, .int .i64 0, .int .i64 8]) ∧ Below W.heap.size W w') := fun W q => by
    have h3 := hA.fine.lo
    have := hrecs_any W p b h k s m (hA.up q) hle (by rw [hk]; have := hlf_le hA.fine.hi; omega) (by rw [hk]; exact two_le h3 hle) (hT.up q)
    rw [show (1 + h * k) = frm s.n (cntH s) by rw [hh, hk]; rfl, show frm s.n (cntH s) + k = til s.n (cntH s) by rw [hk]; rfl, hs] at this
    exact this.mono fun _ _ ⟨a, c⟩ => ⟨c, a⟩
  clear hA hc hs hT hh hk
  go_enter Tryz.func8, Tryz.ntmps8
  go_wp2_with fail
  refine HC.out.mono ?_
  rintro e w1 ⟨rfl, hb1⟩
  have HB := Lib.hid hb1
  have HBa := Lib.hid (hb1.alloc hb1.size (.cells #[.pointer (some ⟨p, 0, none⟩), .int .i64 (h : Int), .int .i64 (k : Int)] 60))
  clear hb1
  go_wp2_with fail
  refine (HR.out _ HBa.out).mono ?_
  rintro e w2 ⟨rfl, hb2⟩
  have HB2 := Lib.hid (lots HBa.out hb2)
  clear hb2
  go_wp2
  go_ret2
  exact ⟨rfl, HB2.out⟩
end Go.Proofs.YtjffcgimdffkoaaGreatDoor

namespace Go.Proofs.YtjffcgimdffkoaaGreatDoor
open Go.RowKit

set_option maxRecDepth 100000 in
set_option maxHeartbeats 2000000 in
theorem open_old (w : World) (p b : Nat) (s : SS) (m : Int) (x : List UInt8) (L : List (List UInt8)) (q : Nat) (hA : At w p b s m) (hc : s.B 0 = mark0 0 ∨ s.B 0 = mark0 1) (hs : scan s.B (til s.n (cntH s)) (s.n + 1) (frm s.n (cntH s)) = some (x :: L, q)) (hT : Tb w) :
    Calls Tryz.prog 8 #[.pointer (some ⟨p, 0, none⟩)] w (OpnR w p b (s, some { half := cntH s, next := q, L := x :: L, br := false }, 0) m) := by
  have hA0 := hA
  obtain ⟨h, hh⟩ : ∃ h, h = cntH s := ⟨_, rfl⟩
  obtain ⟨k, hk⟩ : ∃ k, k = hlf s.n := ⟨_, rfl⟩
  have hle : h ≤ 1 := by rw [hh]; exact cntH_le s
  have eF : 1 + h * k = frm s.n (cntH s) := by rw [hh, hk]; rfl
  have eT : frm s.n (cntH s) + k = til s.n (cntH s) := by rw [hk]; rfl
  have HC : Hid (Calls Tryz.prog 27 #[.pointer (some ⟨p, 0, none⟩)] w fun e w' => e = .returned (.tuple #[.agg #[.pointer (some ⟨p, 0, none⟩), .int .i64 (h : Int), .int .i64 (k : Int)], .int .i64 0]) ∧ Below w.heap.size w w') := by
    refine (counting_any w p b s m hA).mono ?_
    rintro e w' ⟨hb, z | z⟩
    · rw [hh, hk]; exact ⟨z.2, hb⟩
    · rcases hc with y | y
      · exact absurd y z.1
      · exact absurd y z.2.1
  have HR : Hid (∀ W : World, Below w.heap.size w W → Calls Tryz.prog 28 #[.agg #[.pointer (some ⟨p, 0, none⟩), .int .i64 (h : Int), .int .i64 (k : Int)]] W (RecsR W (frm s.n (cntH s)) (til s.n (cntH s)) (some (x :: L, q)))) := fun W z => by
    have h3 := hA.fine.lo
    have := hrecs_any W p b h k s m (hA.up z) hle (by rw [hk]; have := hlf_le hA.fine.hi; omega) (by rw [hk]; exact two_le h3 hle) (hT.up z)
    rwa [eF, eT, hs] at this
  have HE := Lib.hid (And.intro hh (And.intro hk (And.intro eF eT)))
  have HA := Lib.hid hA
  clear hA hc hs hT hh hk eF eT hA0
  go_enter Tryz.func8, Tryz.ntmps8
  go_wp2_with fail
  refine HC.out.mono ?_
  rintro e w1 ⟨rfl, hb1⟩
  have HBa := Lib.hid (hb1.alloc hb1.size (.cells #[.pointer (some ⟨p, 0, none⟩), .int .i64 (h : Int), .int .i64 (k : Int)] 60))
  have HX := Lib.hid (Has.fresh w1 60 (hv p h k))
  clear hb1
  go_wp2_with fail
  refine (HR.out _ HBa.out).mono ?_
  rintro e w2 ⟨hb2, hlo, hhi, R, v, l1, l2, rfl, hrow⟩
  have HB2 := Lib.hid (lots HBa.out hb2)
  have X2 := HX.out.up hb2
  obtain ⟨X, hX⟩ : ∃ X, X = w1.heap.size := ⟨_, rfl⟩
  rw [← hX] at X2 ⊢
  have B3 := X2.box3
  unfold Box3 at B3
  obtain ⟨c0, c1, c2⟩ := B3
  obtain ⟨o, c, o1, c1', rfl, hcc, hcm, hx0, hrow1, hsl⟩ := hrow.cut
  obtain ⟨l, hl⟩ : ∃ l, l = (L.map str).length := ⟨_, rfl⟩
  rw [← hl] at hcc hrow1 hsl ⊢
  obtain ⟨t, ht⟩ : ∃ t, t = str x := ⟨_, rfl⟩
  rw [← ht] at hx0
  obtain ⟨u, hu⟩ : ∃ u, u = q - frm s.n (cntH s) := ⟨_, rfl⟩
  rw [← hu]
  have zX := X2.lt
  have hJ := Has.fresh w2 66 (jcs p h k u nilS (.slice none 0 0) false)
  have hrow3 := hrow1.up (boxed w2 (.cells (jcs p h k u nilS (.slice none 0 0) false) 66))
  have hx3 : (w2.alloc (.cells (jcs p h k u nilS (.slice none 0 0) false) 66)).cell? ⟨R, o, none⟩ = some (.string t) := kcell (boxed _ _) hx0
  have hl1 : (0 : Int) ≤ (l : Int) := by omega
  have HL := Lib.hid (And.intro hlo (And.intro hhi (And.intro l1 (And.intro l2 (And.intro hl (And.intro ht hu))))))
  have HRow := Lib.hid hrow3
  have hlq : L.length = l := by rw [hl]; simp
  have hne : ¬ ((l : Int) + 1 = 0) := by omega
  obtain ⟨W3, hW3⟩ : ∃ W3, W3 = w2.alloc (.cells #[.pointer (some ⟨p, 0, none⟩), .int .i64 (h : Int), .int .i64 (k : Int), .int .i64 (u : Int), .string { data := #[] }, .slice none 0 0, .bool false] 66) := ⟨_, rfl⟩
  have hJ3 : Has W3 w2.heap.size 66 (jcs p h k u nilS (.slice none 0 0) false) := by rw [hW3]; exact hJ
  have hx4 : W3.cell? ⟨R, o, none⟩ = some (.string t) := by rw [hW3]; exact hx3
  have hb3 : Below w.heap.size w W3 := by rw [hW3]; exact HB2.out.alloc HB2.out.size _
  have hrw3 : Rw W3 R (.slice (some ⟨R, o1, none⟩) l c1') (L.map str) := by rw [hW3]; exact hrow3
  have hR3 : R < W3.heap.size := by rw [hW3]; simp; omega
  obtain ⟨J, hJe⟩ : ∃ J, J = w2.heap.size := ⟨_, rfl⟩
  rw [← hJe] at hJ3
  have hJw : w.heap.size ≤ J := by rw [hJe]; exact HB2.out.size
  have hRw : w.heap.size ≤ R := Nat.le_trans HBa.out.size HL.out.2.2.1
  have hRJ : R ≠ J := by have := HL.out.2.2.2.1; omega
  have hA3 := HA.out.up hb3
  have d4 : W3.cell? ⟨J, 4, none⟩ = some (.string { data := #[] }) := hJ3.cell 4
  have d5 : W3.cell? ⟨J, 5, none⟩ = some (.slice none 0 0) := hJ3.cell 5
  have g4 := hJ3.free 4
  have g5 := hJ3.free 5
  have HW3 := Lib.hid hW3
  have HJ3 := Lib.hid hJ3
  have HB3 := Lib.hid hb3
  have HR3 := Lib.hid (And.intro hrw3 hR3)
  have HJe := Lib.hid hJe
  have HN := Lib.hid (And.intro hJw (And.intro hRw hRJ))
  have HA3 := Lib.hid hA3
  clear hb2 hlo hhi l1 l2 hrow X2 hX hrow1 hl ht hu hJ hrow3 hx3 hx0 hlq hW3 hJ3 hb3 hrw3 hR3 hJe hJw hRw hRJ hA3
  go_wp2_with fail
  rw [← HW3.out, ← HJe.out]
  clear c0 c1 c2
  go_region
  all_goals
    go_wp2
    go_ret2
    have h9 : Has ((W3.setCell ⟨J, 4, none⟩ (.string t)).setCell ⟨J, 5, none⟩ (.slice (some ⟨R, o1, none⟩) l c1')).drew J 66 (jcs p h k u t (.slice (some ⟨R, o1, none⟩) l c1') false) := ((HJ3.out.put 4 (.string t)).put 5 (.slice (some ⟨R, o1, none⟩) l c1')).drew1
    have hn := HA3.out.st.nbox HJ3.out (by decide) (by decide)
    obtain ⟨n1, n2, n3⟩ := HN.out
    obtain ⟨l1, l2, l3, l4, l5, l6, l7⟩ := HL.out
    obtain ⟨e1, e2, e3, e4⟩ := HE.out
    have hlt := HA.out.lt
    have hb9 : Below w.heap.size w ((W3.setCell ⟨J, 4, none⟩ (.string t)).setCell ⟨J, 5, none⟩ (.slice (some ⟨R, o1, none⟩) l c1')).drew := blw ((HB3.out.setCell n1 _).setCell n1 _) 1
    refine ⟨But.of p b hb9, rfl, J, R, .slice (some ⟨R, o1, none⟩) l c1', n1, n2, rfl, ⟨At.drewN (⟨(HA3.out.st.off hn.1 hn.2 _).off hn.1 hn.2 _, HA3.out.fine⟩ : At _ p b s m) 1, ⟨?_, ?_, ?_⟩, n3, by omega, by omega⟩, ⟨cntH_le s, l1, l2, by simp⟩⟩
    · show Has _ J _ (jcs p (cntH s) (hlf s.n) (q - frm s.n (cntH s)) (str x) _ false)
      rw [← e1, ← e2, ← l6]
      rw [e1, ← l7, ← e1]
      exact h9
    · have := HR3.out.1
      refine this.of fun cs hc => ?_
      exact ((hc.off (p := ⟨J, 4, none⟩) n3 _).off (p := ⟨J, 5, none⟩) n3 _).drew1
    · have := HR3.out.2
      show R < _
      simpa [World.setCell] using this
end Go.Proofs.YtjffcgimdffkoaaGreatDoor
