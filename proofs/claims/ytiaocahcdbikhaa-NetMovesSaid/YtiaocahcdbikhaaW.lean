/- Contracts: Plus, Less, Cmp. -/
import Derived.Test.YtiaocahcdbikhaaV
namespace Go.Proofs.Ytiaocahcdbikhaa
open Go.RowKit

set_option maxRecDepth 100000 in
set_option maxHeartbeats 800000 in
theorem plus_lt (s sb n : Int) (a b : Option Addr) (lena lenb capa capb : Nat) (la lb : List Int) (w : World) (hs : s = 1 ∨ s = -1) (hsb : sb = 1 ∨ sb = -1) (hne : s ≠ sb) (ha : Dg w a capa la) (hb : Dg w b capb lb) (oa : DigOk la) (ob : DigOk lb) (ea : la.length = lena) (eb : lb.length = lenb) (h1 : lena ≤ 900) (h2 : lenb ≤ 900)
    (hlt : lval la < lval lb) (hn : n = sb * (lval lb - lval la)) :
    Calls Try.prog 20 #[.agg #[.int .i64 s, .slice a lena capa], .agg #[.int .i64 sb, .slice b lenb capb]] w (ExPost w n) := by
  have HP := Lib.hid (phead_start w (.int .i64 s) (.slice a lena capa) (.int .i64 sb) (.slice b lenb capb))
  have HA := Lib.hid ha; have HB := Lib.hid hb; have OA := Lib.hid oa; have OB := Lib.hid ob; have EA := Lib.hid ea; have EB := Lib.hid eb; have HN := Lib.hid hn; have HS := Lib.hid hs; have HSB := Lib.hid hsb; have HLT := Lib.hid hlt
  have q1 : (s == 0) = false := by rw [beq_eq_false_iff_ne]; omega
  have q2 : (sb == 0) = false := by rw [beq_eq_false_iff_ne]; omega
  have q3 : (s == sb) = false := by rw [beq_eq_false_iff_ne]; exact hne
  have Q4 : Hid ((sb == s) = false) := by show _ = _; rw [beq_eq_false_iff_ne]; exact Ne.symm hne
  clear ha hb oa ob ea eb hn hs hsb hlt hne
  go_enter Try.func20, Try.ntmps20
  go_upto_region 5 with fail
  obtain ⟨W0, hW0⟩ : ∃ W0, W0 = (((w.alloc (.cells #[.int .i64 s, .slice a lena capa] 50)).alloc (.cells #[.int .i64 sb, .slice b lenb capb] 50)).alloc (.cells #[.int .i64 0, .slice none 0 0] 50)) := ⟨_, rfl⟩
  rw [← hW0] at HP
  rw [← hW0]
  clear hW0
  go_upto_region 6 with fail
  have HG := Lib.hid (gath_start HP.out)
  obtain ⟨W1, hW1⟩ : ∃ W1, W1 = W0.alloc (.cells #[] 3) := ⟨_, rfl⟩
  rw [← hW1] at HG
  rw [← hW1]
  clear hW1
  obtain ⟨_, hz3, c0, c1, c2, c3, _⟩ := HG.out.1
  go_wp2_with fail
  refine (least_yes a b lena lenb capa capb la lb _ (HA.out.below HG.out.1.1) (HB.out.below HG.out.1.1) OA.out OB.out EA.out EB.out (by omega) (by omega) HLT.out).mono ?_
  rintro _ _ ⟨rfl, rfl⟩
  go_wp2_with fail
  refine (plus_ge sb s n b a lenb lena capb capa lb la _ HSB.out q1 Q4.out (HB.out.below HG.out.1.1) (HA.out.below HG.out.1.1) OB.out OA.out EB.out EA.out h2 h1 (Int.le_of_lt HLT.out) HN.out).mono ?_
  rintro e w1 ⟨s', a2, len2, cap2, rfl, hE, hb1⟩
  have HE1 := Lib.hid hE
  have HP1 := Lib.hid (HG.out.1.up hb1 HG.out.1.2.1)
  clear hE hb1 c0 c1 c2 c3
  obtain ⟨d0, d1, g0, g1⟩ := HP1.out.2.2.2.2.2.2.1
  go_wp2_with fail
  exact bodyPost_ret (v := .agg #[.int .i64 s', .slice a2 len2 cap2]) (by simp [results, Try.results20, go_sem, d0, d1]) rfl
    ⟨s', a2, len2, cap2, rfl, ex_store HP1.out.2.2.2.2.2.2 HE1.out _ _, (HP1.out.1.setCell (by show w.heap.size ≤ w.heap.size + 1 + 1; omega) _).setCell (by show w.heap.size ≤ w.heap.size + 1 + 1; omega) _⟩

set_option maxRecDepth 100000 in
set_option maxHeartbeats 400000 in
theorem plus_zero_left (sb m : Int) (a b : Option Addr) (lena lenb capa capb : Nat) (w : World) (h : Ex w sb b lenb capb m) :
    Calls Try.prog 20 #[.agg #[.int .i64 0, .slice a lena capa], .agg #[.int .i64 sb, .slice b lenb capb]] w (ExPost w m) := by
  have HE := Lib.hid h
  clear h
  go_enter Try.func20, Try.ntmps20
  go_wp2_with fail
  have hB : Below w.heap.size w (((w.alloc (.cells #[.int .i64 0, .slice a lena capa] 50)).alloc (.cells #[.int .i64 sb, .slice b lenb capb] 50)).alloc (.cells #[.int .i64 sb, .slice b lenb capb] 50)) := (((Below.refl _ _).alloc (Nat.le_refl _) _).alloc (by simp) _).alloc (by simp; omega) _
  exact bodyPost_ret (v := .agg #[.int .i64 sb, .slice b lenb capb]) (by simp [results, Try.results20, go_sem]) rfl ⟨sb, b, lenb, capb, rfl, HE.out.below hB, hB⟩

set_option maxRecDepth 100000 in
set_option maxHeartbeats 400000 in
theorem plus_zero_right (s n : Int) (a b : Option Addr) (lena lenb capa capb : Nat) (w : World) (hs : (s == 0) = false) (h : Ex w s a lena capa n) :
    Calls Try.prog 20 #[.agg #[.int .i64 s, .slice a lena capa], .agg #[.int .i64 0, .slice b lenb capb]] w (ExPost w n) := by
  have HE := Lib.hid h
  clear h
  go_enter Try.func20, Try.ntmps20
  go_wp2_with fail
  have hB : Below w.heap.size w (((w.alloc (.cells #[.int .i64 s, .slice a lena capa] 50)).alloc (.cells #[.int .i64 0, .slice b lenb capb] 50)).alloc (.cells #[.int .i64 s, .slice a lena capa] 50)) := (((Below.refl _ _).alloc (Nat.le_refl _) _).alloc (by simp) _).alloc (by simp; omega) _
  exact bodyPost_ret (v := .agg #[.int .i64 s, .slice a lena capa]) (by simp [results, Try.results20, go_sem]) rfl ⟨s, a, lena, capa, rfl, HE.out.below hB, hB⟩

/-- a number that isn't too great for these contracts -/
def Small (n : Int) : Prop := (n.natAbs : Int) < 1000 ^ 200
theorem ex_len {W : World} {s : Int} {a : Option Addr} {len cap : Nat} {n : Int} (h : Ex W s a len cap n) (hn : Small n) : len ≤ 200 := by
  obtain ⟨_, l, h2, _, h4, h5, h6⟩ := h
  rw [← h2]; exact len_le h4 h5 (by rw [h6]; exact hn)
theorem ex_sign {W : World} {s : Int} {a : Option Addr} {len cap : Nat} {n : Int} (h : Ex W s a len cap n) : (s = 0 ∧ n = 0) ∨ ((s = 1 ∨ s = -1) ∧ n = s * n.natAbs) := by
  have h1 := h.1
  rcases Int.lt_trichotomy n 0 with g | g | g
  · rw [Int.sign_eq_neg_one_of_neg g] at h1; right; rw [h1]; exact ⟨.inr rfl, by omega⟩
  · left; rw [g] at h1; exact ⟨h1, g⟩
  · rw [Int.sign_eq_one_of_pos g] at h1; right; rw [h1]; exact ⟨.inl rfl, by omega⟩

theorem plus_ex (s sb n m : Int) (a b : Option Addr) (lena lenb capa capb : Nat) (w : World) (ha : Ex w s a lena capa n) (hb : Ex w sb b lenb capb m) (hn : Small n) (hm : Small m) :
    Calls Try.prog 20 #[.agg #[.int .i64 s, .slice a lena capa], .agg #[.int .i64 sb, .slice b lenb capb]] w (ExPost w (n + m)) := by
  have l1 := ex_len ha hn
  have l2 := ex_len hb hm
  rcases ex_sign ha with ⟨rfl, rfl⟩ | ⟨hs, en⟩
  · rw [Int.zero_add]; exact plus_zero_left sb m a b lena lenb capa capb w hb
  · rcases ex_sign hb with ⟨rfl, rfl⟩ | ⟨ht, em⟩
    · rw [Int.add_zero]; exact plus_zero_right s n a b lena lenb capa capb w (by rw [beq_eq_false_iff_ne]; omega) ha
    · obtain ⟨_, la, e1, d1, o1, _, v1⟩ := ha
      obtain ⟨_, lb, e2, d2, o2, _, v2⟩ := hb
      rw [← v1] at en; rw [← v2] at em
      by_cases hss : s = sb
      · subst hss
        refine plus_same s (n + m) a b lena lenb capa capb la lb w hs d1 d2 o1 o2 e1 e2 (by omega) (by omega) (by rw [Int.mul_add]; omega) (if lena < lenb then lenb else lena) ?_
        by_cases hc : lena < lenb
        · rw [if_pos hc]; exact .inl ⟨hc, rfl⟩
        · rw [if_neg hc]; exact .inr ⟨by omega, rfl⟩
      · have hopp : sb = -s := by omega
        by_cases hle : lval lb ≤ lval la
        · refine plus_ge s sb (n + m) a b lena lenb capa capb la lb w hs (by rw [beq_eq_false_iff_ne]; omega) (by rw [beq_eq_false_iff_ne]; exact hss) d1 d2 o1 o2 e1 e2 (by omega) (by omega) hle ?_
          rw [em, hopp, Int.mul_sub, Int.neg_mul]; omega
        · refine plus_lt s sb (n + m) a b lena lenb capa capb la lb w hs ht hss d1 d2 o1 o2 e1 e2 (by omega) (by omega) (by omega) ?_
          rw [en, show s = -sb by omega, Int.mul_sub, Int.neg_mul]; omega

theorem PHead.drew {w W : World} {sa va sb vb : Value} (h : PHead w W sa va sb vb) : PHead w W.drew sa va sb vb :=
  h.up (Below.refl (w.heap.size + 3) W).drew (Nat.le_refl _)
theorem PHead.b {w W : World} {sa va sb vb : Value} (h : PHead w W sa va sb vb) : Below w.heap.size w W := h.1
theorem PHead.sz {w W : World} {sa va sb vb : Value} (h : PHead w W sa va sb vb) : w.heap.size + 3 ≤ W.heap.size := h.2.1
/-- both arguments' cells -/
def PQ (N : Nat) (W : World) (sa va sb vb : Value) : Prop := W.cell? ⟨N, 0, none⟩ = some sa ∧ W.cell? ⟨N, 1, none⟩ = some va ∧ W.cell? ⟨N + 1, 0, none⟩ = some sb ∧ W.cell? ⟨N + 1, 1, none⟩ = some vb
theorem PHead.pq {w W : World} {sa va sb vb : Value} (h : PHead w W sa va sb vb) : PQ w.heap.size W sa va sb vb := ⟨h.2.2.1, h.2.2.2.1, h.2.2.2.2.1, h.2.2.2.2.2.1⟩
theorem PQ.set {N : Nat} {W : World} {sa va sb vb : Value} (h : PQ N W sa va sb vb) (k : Nat) (u : Value) : PQ N (W.setCell ⟨N + 1 + 1, k, none⟩ u) sa va sb vb :=
  ⟨cSet (by show N + 1 + 1 ≠ N; omega) h.1, cSet (by show N + 1 + 1 ≠ N; omega) h.2.1, cSet (by show N + 1 + 1 ≠ N + 1; omega) h.2.2.1, cSet (by show N + 1 + 1 ≠ N + 1; omega) h.2.2.2⟩
theorem small_neg {n : Int} (h : Small n) : Small (-n) := by unfold Small; rw [Int.natAbs_neg]; exact h

set_option maxRecDepth 100000 in
set_option maxHeartbeats 400000 in
theorem less_ex (s sb n m : Int) (a b : Option Addr) (lena lenb capa capb : Nat) (w : World) (ha : Ex w s a lena capa n) (hb : Ex w sb b lenb capb m) (hn : Small n) (hm : Small m) :
    Calls Try.prog 37 #[.agg #[.int .i64 s, .slice a lena capa], .agg #[.int .i64 sb, .slice b lenb capb]] w (ExPost w (n - m)) := by
  have HP := Lib.hid (phead_start w (.int .i64 s) (.slice a lena capa) (.int .i64 sb) (.slice b lenb capb))
  have HA := Lib.hid ha; have HB := Lib.hid hb; have HN := Lib.hid hn; have HM := Lib.hid hm
  clear ha hb hn hm
  go_enter Try.func37, Try.ntmps37
  go_wp2_with fail
  obtain ⟨W0, hW0⟩ : ∃ W0, W0 = (((w.alloc (.cells #[.int .i64 s, .slice a lena capa] 50)).alloc (.cells #[.int .i64 sb, .slice b lenb capb] 50)).alloc (.cells #[.int .i64 0, .slice none 0 0] 50)) := ⟨_, rfl⟩
  rw [← hW0] at HP
  rw [← hW0]
  clear hW0
  rw [Int.sub_eq_add_neg]
  go_region_held3 (fun w' => w'.cell? ⟨w.heap.size, 0, none⟩ = some (.int .i64 s) ∧ w'.cell? ⟨w.heap.size, 1, none⟩ = some (.slice a lena capa) ∧ w'.cell? ⟨w.heap.size + 1, 0, none⟩ = some (.int .i64 sb) ∧ w'.cell? ⟨w.heap.size + 1, 1, none⟩ = some (.slice b lenb capb))
    ((change PQ w.heap.size _ _ _ _ _; with_reducible (first | exact HP.out.drew.pq | exact kP1.out.pq | exact kP2.out.pq | exact (kP2.out.pq.set _ _).set _ _)))
    (first | (go_at_call 39; ((with_reducible refine (neg_any sb m b lenb capb _ (HB.out.below HP.out.drew.b)).mono ?_); rintro e w1 ⟨s1, a1, len1, cap1, rfl, hE1, hb1⟩; have kE1 := Lib.hid hE1; have kP1 := Lib.hid (HP.out.drew.up hb1 HP.out.drew.sz); clear hE1 hb1)) | (go_at_call 20; ((with_reducible refine (plus_ex s s1 n (-m) a a1 lena len1 capa cap1 _ (HA.out.below kP1.out.b) kE1.out HN.out (small_neg HM.out)).mono ?_); rintro e w2 ⟨s2, a2, len2, cap2, rfl, hE2, hb2⟩; have kE2 := Lib.hid hE2; have kP2 := Lib.hid (kP1.out.up hb2 kP1.out.sz); clear hE2 hb2; obtain ⟨d0, d1, g0, g1⟩ := kP2.out.2.2.2.2.2.2.1)))
  go_wp2_with fail
  exact bodyPost_ret (v := .agg #[.int .i64 s2, .slice a2 len2 cap2]) (by simp [results, Try.results37, go_sem, d0, d1]) rfl
    ⟨s2, a2, len2, cap2, rfl, ex_store kP2.out.2.2.2.2.2.2 kE2.out _ _, (kP2.out.1.setCell (by show w.heap.size ≤ w.heap.size + 1 + 1; omega) _).setCell (by show w.heap.size ≤ w.heap.size + 1 + 1; omega) _⟩

theorem field30 (x y : Value) (s : Int) (hx : x = .int .i64 s) (w : World) : (Instr.field 50 (.agg #[x, y]) 0).run Try.prog w = .ok (.int .i64 s) w := by subst hx; kernel_rfl

/-- the sign of a difference -/
def CmpPost (w : World) (n : Int) (e : Ending) (w' : World) : Prop := e = .returned (.int .i64 n.sign) ∧ Below w.heap.size w w'
set_option maxRecDepth 100000 in
set_option maxHeartbeats 400000 in
theorem cmp_ex (s sb n m : Int) (a b : Option Addr) (lena lenb capa capb : Nat) (w : World) (ha : Ex w s a lena capa n) (hb : Ex w sb b lenb capb m) (hn : Small n) (hm : Small m) :
    Calls Try.prog 31 #[.agg #[.int .i64 s, .slice a lena capa], .agg #[.int .i64 sb, .slice b lenb capb]] w (CmpPost w (n - m)) := by
  have HA := Lib.hid ha; have HB := Lib.hid hb; have HN := Lib.hid hn; have HM := Lib.hid hm
  clear ha hb hn hm
  go_enter Try.func31, Try.ntmps31
  go_wp2_with fail
  have hB : Below w.heap.size w ((w.alloc (.cells #[.int .i64 s, .slice a lena capa] 50)).alloc (.cells #[.int .i64 sb, .slice b lenb capb] 50)) := ((Below.refl _ _).alloc (Nat.le_refl _) _).alloc (by simp) _
  have HBB := Lib.hid hB
  clear hB
  refine (less_ex s sb n m a b lena lenb capa capb _ (HA.out.below HBB.out) (HB.out.below HBB.out) HN.out HM.out).mono ?_
  rintro e w1 ⟨s1, a1, len1, cap1, rfl, hE1, hb1⟩
  have HE := Lib.hid hE1
  have HB1 := Lib.hid (HBB.out.trans (hb1.mono (by simp; omega)))
  clear hE1 hb1
  have hf := field30 (.int .i64 s1) (.slice a1 len1 cap1) s1 rfl
  go_wp2_with fail
  go_ret
  exact ⟨by rw [← HE.out.1]; rfl, HB1.out⟩
end Go.Proofs.Ytiaocahcdbikhaa
