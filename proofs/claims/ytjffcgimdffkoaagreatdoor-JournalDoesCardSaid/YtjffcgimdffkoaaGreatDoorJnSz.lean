/- Operations among the arguments; how many bytes they have. -/
import Derived.Test.YtjffcgimdffkoaaGreatDoorJnZ
namespace Go.Proofs.YtjffcgimdffkoaaGreatDoor
open Go.RowKit

/-- a journal, its store, and what was there ahead -/
structure Ses (w0 w : World) (J R p b : Nat) (v : Value) (s : SS) (j : JS) (m : Int) : Prop where
  jat : Jat w J R p b v s j m
  bel : Below w0.heap.size w0 w
  lo : w0.heap.size ≤ J ∧ w0.heap.size ≤ R ∧ w0.heap.size ≤ p ∧ w0.heap.size ≤ b
theorem Ses.next {w0 w w' : World} {J R p b : Nat} {v : Value} {s : SS} {j : JS} {m m' : Int} {S : SS × JS × Int} {e : Ending} (H : Ses w0 w J R p b v s j m) (q : JoD w J R p b S m' e w') :
    e = .returned (.int .i64 S.2.2) ∧ ∃ R' v', Ses w0 w' J R' p b v' S.1 S.2.1 m' := by
  obtain ⟨he, ⟨R', v', hR, hj⟩, ht⟩ := q
  refine ⟨he, R', v', hj, ?_, ?_⟩
  · exact H.bel.trans (ht.below H.bel.size (fun k hk => by have := H.lo; rcases hk with z | z | z | z <;> omega))
  · have := H.lo
    have := H.bel.size
    rcases hR with rfl | z <;> omega
theorem Ses.up {w0 w w' : World} {J R p b : Nat} {v : Value} {s : SS} {j : JS} {m : Int} (H : Ses w0 w J R p b v s j m) (k : Below w.heap.size w w') : Ses w0 w' J R p b v s j m :=
  ⟨⟨H.jat.at_.up k, H.jat.jv.up k, H.jat.ne⟩, up2 H.bel k, H.lo⟩
theorem Tb.old {w0 w : World} (h : Tb w0) (k : Below w0.heap.size w0 w) : Tb w := h.up k
/-- Append where there is power and room -/
theorem Ses.app {w0 w : World} {J R p b : Nat} {v : Value} {s : SS} {j : JS} {m : Int} (H : Ses w0 w J R p b v s j m) (P : Pow s j) (hT : Tb w0) (hm : m ≤ 800000) (x : ByteArray) (hx : x.size ≤ maxLen) (hf : ¬ full x.data.toList j.next (til s.n j.half)) :
    Calls Tryz.prog 10 #[.pointer (some ⟨J, 0, none⟩), .string x] w fun e w' => e = .returned (.int .i64 0) ∧ ∃ R' v' s', Ses w0 w' J R' p b v' s' (appJ j x.data.toList) (m + 10000) ∧ Pow s' (appJ j x.data.toList) ∧ s'.n = s.n := by
  obtain ⟨s', e1, hp, hn⟩ := (app_pow x.data.toList H.jat.at_.fine P).2 hf
  have := append_any w J R p b v s m j x H.jat hm (P.inv.ok P.ne) hx (hT.old H.bel)
  rw [e1] at this
  refine this.mono fun e w' q => ?_
  obtain ⟨he, R', v', hs⟩ := H.next q
  exact ⟨he, R', v', s', hs, hp, hn⟩
theorem Ses.appF {w0 w : World} {J R p b : Nat} {v : Value} {s : SS} {j : JS} {m : Int} (H : Ses w0 w J R p b v s j m) (P : Pow s j) (hT : Tb w0) (hm : m ≤ 800000) (x : ByteArray) (hx : x.size ≤ maxLen) (hf : full x.data.toList j.next (til s.n j.half)) :
    Calls Tryz.prog 10 #[.pointer (some ⟨J, 0, none⟩), .string x] w fun e w' => e = .returned (.int .i64 4) ∧ ∃ R' v', Ses w0 w' J R' p b v' s j (m + 10000) := by
  have e1 := (app_pow x.data.toList H.jat.at_.fine P).1 hf
  have := append_any w J R p b v s m j x H.jat hm (P.inv.ok P.ne) hx (hT.old H.bel)
  rw [e1] at this
  exact this.mono fun e w' q => H.next q
theorem Ses.snap {w0 w : World} {J R p b : Nat} {v : Value} {s : SS} {j : JS} {m : Int} (H : Ses w0 w J R p b v s j m) (P : Pow s j) (hT : Tb w0) (hm : m ≤ 800000) (x : ByteArray) (hx : x.size ≤ maxLen) (hf : ¬ full x.data.toList (frm s.n (1 - j.half)) (til s.n (1 - j.half))) :
    Calls Tryz.prog 12 #[.pointer (some ⟨J, 0, none⟩), .string x] w fun e w' => e = .returned (.int .i64 0) ∧ ∃ R' v' s', Ses w0 w' J R' p b v' s' (snapJ s.n j x.data.toList) (m + 10000) ∧ Pow s' (snapJ s.n j x.data.toList) ∧ s'.n = s.n := by
  obtain ⟨s', e1, hp, hn⟩ := (snap_pow x.data.toList H.jat.at_.fine P).2 hf
  have := snap_any w J R p b v s m j x H.jat hm (P.inv.ok P.ne) hx (hT.old H.bel)
  rw [e1] at this
  refine this.mono fun e w' q => ?_
  obtain ⟨he, R', v', hs⟩ := H.next q
  exact ⟨he, R', v', s', hs, hp, hn⟩
/-- a store, and what was there ahead -/
structure Sto (w0 w : World) (p b : Nat) (s : SS) (m : Int) : Prop where
  at_ : At w p b s m
  bel : Below w0.heap.size w0 w
  lo : w0.heap.size ≤ p ∧ w0.heap.size ≤ b
theorem Ses.sto {w0 w : World} {J R p b : Nat} {v : Value} {s : SS} {j : JS} {m : Int} (H : Ses w0 w J R p b v s j m) : Sto w0 w p b s m := ⟨H.jat.at_, H.bel, H.lo.2.2⟩
/-- Open where something is told -/
theorem Sto.open_ {w0 w : World} {p b : Nat} {s : SS} {j : JS} {m : Int} (H : Sto w0 w p b s m) (ho : openS s = (s, some j, 0)) (hT : Tb w0) (hm : m ≤ 800000) :
    Calls Tryz.prog 8 #[.pointer (some ⟨p, 0, none⟩)] w fun e w' => ∃ J R v, e = .returned (.tuple #[.pointer (some ⟨J, 0, none⟩), .int .i64 0]) ∧ Ses w0 w' J R p b v s j (m + 10000) ∧ But p b w w' ∧ w.heap.size ≤ J ∧ w.heap.size ≤ R := by
  have := open_any w p b s m H.at_ hm (hT.old H.bel)
  rw [ho] at this
  refine this.mono fun e w' q => ?_
  obtain ⟨hb, h0, J, R, v, a1, a2, a3, a4, a5⟩ := q
  have := H.bel.size
  have hl := H.lo
  exact ⟨J, R, v, a3, ⟨a4, H.bel.trans (hb.below this hl.1 hl.2), by omega, by omega, hl.1, hl.2⟩, hb, a1, a2⟩
theorem Jv.but {w w' : World} {J R p' n : Nat} {v : Value} {j : JS} {p b : Nat} (h : Jv w J R v p' n j) (k : But p b w w') (h1 : J ≠ p ∧ J ≠ b) (h2 : R ≠ p ∧ R ≠ b) : Jv w' J R v p' n j :=
  h.keep (k.turn (F := fun k => k = p ∨ k = b) (.inl rfl) (.inr rfl)) (by omega) (by omega)

/-- bytes, cut or filled up to a block -/
def blkp (x : ByteArray) : ByteArray := str ((x.data.toList ++ List.replicate 64 0).take 64)
theorem blkp_size (x : ByteArray) : (blkp x).size = 64 := by unfold blkp; rw [str_size]; simp
def zB (k : Nat) : ByteArray := str (List.replicate k 0)
set_option maxRecDepth 100000 in
theorem conv_zero (k : Nat) (W : World) : (convert 46 9 (.slice (some ⟨W.heap.size, 0, none⟩) k k)).run Tryz.prog (W.alloc (.cells (byA (List.replicate k 0)) 5)) = .ok (.string (zB k)) (W.alloc (.cells (byA (List.replicate k 0)) 5)) := by
  have h := Lib.run_convert_whole (P := Tryz.prog) (W.alloc (.cells (byA (List.replicate k 0)) 5)) 46 5 9 Tryz.underlying46 Tryz.underlying5 Tryz.underlying9 W.heap.size 0 (zB k) (Has.fresh W 5 _).bytes k
  have e : (zB k).size = k := by unfold zB; rw [str_size]; simp
  rwa [e] at h
theorem make_zero (k : Nat) (hk : k ≤ 100000) (W : World) : (Instr.makeSlice 46 (.int .i64 (k : Int)) (.int .i64 (k : Int))).run Tryz.prog W = .ok (.slice (some ⟨W.heap.size, 0, none⟩) k k) (W.alloc (.cells (byA (List.replicate k 0)) 5)) := by
  obtain ⟨i0, hi, hz0, hz1, hz2⟩ := info_parts zeroB
  rw [run_make W 46 5 i0 _ Tryz.underlying46 hi hz0 .i64 .i64 k k (by omega) (by omega) (by rw [hz2]; omega) (by omega), hz1, ← made_bytes]
  simp
set_option maxHeartbeats 1000000 in
theorem block_any (w : World) (x : ByteArray) (hx : x.size ≤ 1000000000) : Calls Tryz.prog 17 #[.string x] w fun e w' => e = .returned (.string (blkp x)) ∧ Below w.heap.size w w' := by
  have hmk : ∀ W : World, (Instr.makeSlice 46 (.int .i64 64) (.int .i64 64)).run Tryz.prog W = .ok (.slice (some ⟨W.heap.size, 0, none⟩) 64 64) (W.alloc (.cells (byA (List.replicate 64 0)) 5)) := fun W => make_zero 64 (by omega) W
  have hcv := conv_zero 64
  obtain ⟨C, hC⟩ : ∃ C, C = byA (List.replicate 64 0) := ⟨_, rfl⟩
  obtain ⟨Z, hZ⟩ : ∃ Z, Z = zB 64 := ⟨_, rfl⟩
  have sZ : Z.size = 64 := by rw [hZ]; unfold zB; rw [str_size]; simp
  rw [← hC, ← hZ] at hcv
  simp only [← hC] at hmk
  have he : (x ++ Z).extract 0 64 = blkp x := by
    rw [ext_str, hZ]
    unfold blkp zB
    congr 2
  have q1 : ¬ (9223372036854775807 < x.size + Z.size) := by omega
  have q2 : (64 : Int) ≤ (x.size : Int) + (Z.size : Int) := by omega
  have HE := Lib.hid he
  clear he hC hZ sZ
  go_enter Tryz.func17, Tryz.ntmps17
  go_wp2
  go_ret
  rw [HE.out]
  exact ⟨rfl, boxed _ _⟩

theorem full_no {b : List UInt8} {a e k : Nat} (hl : b.length ≤ 40000) (hk : nb b.length = k) (he : a + k ≤ e) : ¬ full b a e := by unfold full; omega
def one : ByteArray := ⟨#[111, 110, 101]⟩
theorem two_ne (x : ByteArray) (h : x.data.toList.take 1 = [2]) : x ≠ mark0 0 ∧ x ≠ mark0 1 := by
  constructor
  · rintro rfl
    unfold mark0 at h
    rw [str_list] at h
    exact absurd h (by decide)
  · rintro rfl
    unfold mark0 at h
    rw [str_list] at h
    exact absurd h (by decide)
theorem blkp_two : (blkp ⟨#[2]⟩).data.toList.take 1 = [2] := by unfold blkp; rw [str_list]; rfl
theorem wr_first {s : SS} {j : JS} (P : Pow s j) (x : ByteArray) (hx : x.size = 64) : (wrS s 0 x).B 0 = x ∧ (wrS s 0 x).n = s.n := by
  have q : inR s 0 x := ⟨by omega, by have := P.inv.lo; omega, hx⟩
  unfold wrS
  rw [if_pos q, if_neg (by rw [P.pw]; simp), if_neg (by rw [P.ld]; simp)]
  exact ⟨upd_at s.B 0 x, rfl⟩

set_option maxRecDepth 100000 in
set_option maxHeartbeats 4000000 in
theorem jn_awake (w : World) (hT : Tb w) : Calls Tryz.prog 4 #[] w fun e w' => e = .returned (.bool true) ∧ Below w.heap.size w w' := by
  obtain ⟨s0, ho, hn0, hp0⟩ := new_pow (n := 9) (by omega) (by omega)
  have hmk : ∀ W : World, (Instr.makeSlice 46 (.int .i64 200) (.int .i64 200)).run Tryz.prog W = .ok (.slice (some ⟨W.heap.size, 0, none⟩) 200 200) (W.alloc (.cells (byA (List.replicate 200 0)) 5)) := fun W => make_zero 200 (by omega) W
  have hcv := conv_zero 200
  obtain ⟨C, hC⟩ : ∃ C, C = byA (List.replicate 200 0) := ⟨_, rfl⟩
  obtain ⟨Z, hZ⟩ : ∃ Z, Z = zB 200 := ⟨_, rfl⟩
  rw [← hC, ← hZ] at hcv
  simp only [← hC] at hmk
  have HZ : Hid (Z.size ≤ maxLen ∧ nb Z.data.toList.length = 4) := by
    rw [hZ]
    refine ⟨?_, ?_⟩
    · unfold zB; rw [str_size]; simp; unfold maxLen; omega
    · unfold zB; rw [str_list, List.length_replicate]; rfl
  have HO := Lib.hid ho
  have HN0 := Lib.hid hn0
  have HP0 := Lib.hid hp0
  have HT := Lib.hid hT
  clear hC hZ ho hn0 hp0 hT
  go_enter Tryz.func4, Tryz.ntmps4
  go_wp2_with fail
  refine (new_at w 9 (by decide) (by decide)).mono ?_
  rintro e w1 ⟨p, b, rfl, ha, lp, lb, hb⟩
  have S1 : Hid (Sto w w1 p b (newS 9) 0) := ⟨ha, hb, lp, lb⟩
  clear ha lp lb hb
  go_wp2_with fail
  refine ((open_any w1 p b (newS 9) 0 S1.out.at_ (by omega) (HT.out.old S1.out.bel)).mono (fun e w' q => ?_) : Calls _ _ _ _ (fun e w' => ∃ J R v, e = .returned (.tuple #[.pointer (some ⟨J, 0, none⟩), .int .i64 0]) ∧ Ses w w' J R p b v s0 (appJ j0 []) 10000)).mono ?_
  · rw [HO.out] at q
    obtain ⟨hb, h0, J, R, v, a1, a2, a3, a4, a5⟩ := q
    have := S1.out.bel.size
    have hl := S1.out.lo
    exact ⟨J, R, v, a3, a4, S1.out.bel.trans (hb.below this hl.1 hl.2), by omega, by omega, hl.1, hl.2⟩
  rintro e w2 ⟨J, R, v, rfl, hs2⟩
  have S2 := Lib.hid hs2
  clear hs2 S1
  go_wp2_with fail
  refine (open_nil w2).mono ?_
  rintro e w' ⟨rfl, rfl⟩
  go_wp2_with fail
  have HA : Hid (∀ W : World, Ses w W J R p b v s0 (appJ j0 []) 10000 → Calls Tryz.prog 10 #[.pointer (some ⟨J, 0, none⟩), .string { data := #[97] }] W fun e w' => e = .returned (.int .i64 0) ∧ ∃ R' v' s', Ses w w' J R' p b v' s' (appJ (appJ j0 []) [97]) 20000 ∧ Pow s' (appJ (appJ j0 []) [97]) ∧ s'.n = 9) := fun W q => by
    have := q.app HP0.out HT.out (by omega) { data := #[97] } (by show 1 ≤ maxLen; unfold maxLen; omega) (by rw [HN0.out]; decide)
    rw [HN0.out] at this
    exact this
  refine (HA.out w2 S2.out).mono ?_
  rintro e w3 ⟨rfl, R3, v3, s3, hs3, hp3, hn3⟩
  have S3 := Lib.hid (And.intro hs3 (And.intro hp3 hn3))
  clear hs3 hp3 hn3 HA S2
  go_wp2_with fail
  have HA : Hid (Calls Tryz.prog 12 #[.pointer (some ⟨J, 0, none⟩), .string { data := #[111, 110, 101] }] w3 fun e w' => e = .returned (.int .i64 0) ∧ ∃ R' v' s', Ses w w' J R' p b v' s' (snapJ 9 (appJ (appJ j0 []) [97]) [111, 110, 101]) 30000 ∧ Pow s' (snapJ 9 (appJ (appJ j0 []) [97]) [111, 110, 101]) ∧ s'.n = 9) := by
    have := S3.out.1.snap S3.out.2.1 HT.out (by omega) { data := #[111, 110, 101] } (by show 3 ≤ maxLen; unfold maxLen; omega) (by rw [S3.out.2.2]; decide)
    rw [S3.out.2.2] at this
    exact this
  refine HA.out.mono ?_
  rintro e w4 ⟨rfl, R4, v4, s4, hs4, hp4, hn4⟩
  have S4 := Lib.hid (And.intro hs4 (And.intro hp4 hn4))
  clear hs4 hp4 hn4 HA S3
  go_wp2_with fail
  obtain ⟨j4, hj4⟩ : ∃ j4, j4 = snapJ 9 (appJ (appJ j0 []) [97]) [111, 110, 101] := ⟨_, rfl⟩
  have HA : Hid (Calls Tryz.prog 10 #[.pointer (some ⟨J, 0, none⟩), .string { data := #[98] }] w4 fun e w' => e = .returned (.int .i64 0) ∧ ∃ R' v' s', Ses w w' J R' p b v' s' (appJ j4 [98]) 40000 ∧ Pow s' (appJ j4 [98]) ∧ s'.n = 9) := by
    have := S4.out.1.app S4.out.2.1 HT.out (by omega) { data := #[98] } (by show 1 ≤ maxLen; unfold maxLen; omega) (by rw [S4.out.2.2]; decide)
    rw [S4.out.2.2] at this
    rw [hj4]
    exact this
  refine HA.out.mono ?_
  rintro e w5 ⟨rfl, R5, v5, s5, hs5, hp5, hn5⟩
  obtain ⟨j5, hj5⟩ : ∃ j5, j5 = appJ j4 [98] := ⟨_, rfl⟩
  rw [← hj5] at hs5 hp5
  have HJ5 : Hid (j5.next = 7 ∧ j5.half = 1 ∧ j5.L = [[111, 110, 101], [98]]) := by rw [hj5, hj4]; exact ⟨rfl, rfl, rfl⟩
  have S5 := Lib.hid (And.intro hs5 (And.intro hp5 hn5))
  clear hs5 hp5 hn5 HA S4 hj4 hj5
  go_wp2_with fail
  refine (S5.out.1.sto.open_ (open_pow S5.out.2.1) HT.out (by omega)).mono ?_
  rintro e w6 ⟨K, RK, vK, rfl, hs6, hb6, l1, l2⟩
  have S6 := Lib.hid hs6
  clear hs6 hb6 l1 l2
  go_wp2_with fail
  refine (S6.out.up (boxed w6 (.cells C 5)) |>.appF S5.out.2.1 HT.out (by omega) Z HZ.out.1 (by unfold full; rw [HZ.out.2, HJ5.out.1, HJ5.out.2.1, S5.out.2.2]; right; decide)).mono ?_
  rintro e w7 ⟨rfl, R7, v7, hs7⟩
  have S7 := Lib.hid hs7
  clear hs7 S6 hmk hcv
  go_wp2_with fail
  refine (block_any w7 { data := #[2] } (by show 1 ≤ 1000000000; omega)).mono ?_
  rintro e w8 ⟨rfl, hb8⟩
  have S8 := Lib.hid (S7.out.up hb8)
  obtain ⟨X, hX⟩ : ∃ X, X = blkp { data := #[2] } := ⟨_, rfl⟩
  rw [← hX]
  have HX : Hid (X.size = 64 ∧ X ≠ mark0 0 ∧ X ≠ mark0 1) := by
    rw [hX]
    exact ⟨blkp_size _, two_ne _ blkp_two⟩
  clear hb8 hX S7
  go_wp2_with fail
  refine (write_any w8 p b s5 0 X _ S8.out.jat.at_.st S8.out.jat.at_.fine (by omega)).mono ?_
  rintro e w9 ⟨rfl, hst, hk⟩
  have S7ne := Lib.hid S8.out.jat.ne
  have hlo := S8.out.lo
  have S9 : Hid (Sto w w9 p b (wrS s5 0 X) (10000 + 10000 + 10000 + 10000 + 10000 + 10000 + 1)) := ⟨⟨hst, wr_fine S8.out.jat.at_.fine⟩, S8.out.bel.trans (hk.below S8.out.bel.size hlo.2.2.1 hlo.2.2.2), hlo.2.2⟩
  have HW1 := Lib.hid (wr_first S5.out.2.1 X HX.out.1)
  have hnk := S8.out.jat.at_.st.nbox S8.out.jat.jv.head (by decide) (by decide)
  have kv9 : Jv w9 K R7 v7 p 9 j5 := by
    have := S8.out.jat.jv.but hk ⟨hnk.1, hnk.2⟩ S8.out.jat.ne.2
    rwa [S5.out.2.2] at this
  have KV := Lib.hid kv9
  have ok5 : Ok 9 j5 := by
    have := S5.out.2.1.inv.ok S5.out.2.1.ne
    rwa [S5.out.2.2] at this
  have OK5 := Lib.hid ok5
  obtain ⟨E, hE⟩ : ∃ E, E = wrE s5 0 X := ⟨_, rfl⟩
  rw [← hE]
  clear hst hk hlo hnk kv9 ok5 hE S8
  go_wp2_with fail
  refine ((open_any w9 p b (wrS s5 0 X) _ S9.out.at_ (by omega) (HT.out.old S9.out.bel)).mono (fun e w' q => ?_) : Calls _ _ _ _ (fun e w' => e = .returned (.tuple #[.pointer none, .int .i64 8]) ∧ Below w.heap.size w w' ∧ Jv w' K R7 v7 p 9 j5)).mono ?_
  · rw [openS_none (by rw [HW1.out.1]; exact HX.out.2.1) (by rw [HW1.out.1]; exact HX.out.2.2)] at q
    obtain ⟨hb, h0, he, hat⟩ := q
    have hl := S9.out.lo
    have hnk := S9.out.at_.st.nbox KV.out.head (by decide) (by decide)
    refine ⟨he, S9.out.bel.trans (hb.below S9.out.bel.size hl.1 hl.2), KV.out.but hb ⟨hnk.1, hnk.2⟩ ?_⟩
    exact S7ne.out.2
  rintro e w10 ⟨rfl, hb10, hk10⟩
  have B10 := Lib.hid hb10
  have K10 := Lib.hid hk10
  clear hb10 hk10 KV S9 HW1
  have e1 : str (j5.L.headD []) = { data := #[111, 110, 101] } := by rw [HJ5.out.2.2]; rfl
  have e2 : j5.L.tail.map str = [{ data := #[98] }] := by rw [HJ5.out.2.2]; rfl
  have HTx : Hid (∀ W : World, Jv W K R7 v7 p 9 j5 → Calls Tryz.prog 22 #[.pointer (some ⟨K, 0, none⟩)] W fun e w' => e = .returned (.string { data := #[111, 110, 101] }) ∧ W = w') := fun W q => by rw [← e1]; exact text_any W K R7 v7 p 9 j5 q
  have HRc : Hid (∀ W : World, Jv W K R7 v7 p 9 j5 → Calls Tryz.prog 24 #[.pointer (some ⟨K, 0, none⟩)] W (Strl W W.heap.size [{ data := #[98] }])) := fun W q => by rw [← e2]; exact records_any W K R7 v7 p 9 j5 q OK5.out (by omega)
  have HRm : Hid (∀ W : World, Jv W K R7 v7 p 9 j5 → Calls Tryz.prog 25 #[.pointer (some ⟨K, 0, none⟩)] W fun e w' => e = .returned (.int .i64 2) ∧ ∃ q, w' = W.drewN q) := fun W q => by
    have := room_any W K R7 v7 p 9 j5 q OK5.out (by omega)
    rw [HJ5.out.1, HJ5.out.2.1] at this
    exact this
  clear e1 e2
  go_wp2_with fail
  refine (HTx.out _ K10.out).mono ?_
  rintro e w' ⟨rfl, rfl⟩
  go_wp2_with fail
  refine (HRc.out _ K10.out).mono ?_
  rintro e w11 ⟨a, c, rfl, hs, hc, hb11⟩
  have B11 := Lib.hid (lots B10.out hb11)
  have K11 := Lib.hid (K10.out.up hb11)
  have A11 := Lib.hid hs
  clear hs hc hb11 K10 B10
  go_wp2_with fail
  have hb12 := boxed w11 (.cells #[.string { data := #[98] }] 9)
  have hs12 : StrA (w11.alloc (.cells #[.string { data := #[98] }] 9)) (some ⟨w11.heap.size, 0, none⟩) [{ data := #[98] }] := .inr ⟨_, _, rfl, fun j x e => by
    cases j with
    | zero => simp at e; subst e; exact (Has.fresh w11 9 #[.string { data := #[98] }]).cell 0
    | succ j => simp at e⟩
  have HSm := Lib.hid (same_on a (some ⟨w11.heap.size, 0, none⟩) c 1 [{ data := #[98] }] [{ data := #[98] }] _ (A11.out.up hb12) hs12 (by simp))
  have B12 := Lib.hid (lots B11.out hb12)
  have K12 := Lib.hid (K11.out.up hb12)
  clear hb12 hs12 K11 B11 A11
  refine (HSm.out).mono ?_
  rintro e w13 ⟨rfl, n1, rfl⟩
  go_wp2_with fail
  refine (HRm.out _ (K12.out.drewN _)).mono ?_
  rintro e w14 ⟨rfl, n2, rfl⟩
  have B14 := Lib.hid (blw (blw B12.out n1) n2)
  clear K12 B12
  go_wp2
  go_ret
  rw [← drewN_two]
  exact ⟨rfl, B14.out⟩
end Go.Proofs.YtjffcgimdffkoaaGreatDoor

namespace Go.Proofs.YtjffcgimdffkoaaGreatDoor
open Go.RowKit

/-- an operation -/
structure OpJ where
  d : Int
  n : Int
  t : Int
  x : ByteArray
def OpJ.cells (o : OpJ) : Array Value := #[.int .i64 o.d, .int .i64 o.n, .int .i64 o.t, .string o.x]
def LayJ (b k : Nat) (o : OpJ) (w : World) : Prop := w.cell? ⟨b, k, none⟩ = some (.int .i64 o.d) ∧ w.cell? ⟨b, k + 1, none⟩ = some (.int .i64 o.n) ∧ w.cell? ⟨b, k + 2, none⟩ = some (.int .i64 o.t) ∧ w.cell? ⟨b, k + 3, none⟩ = some (.string o.x)
/-- a list of operations -/
def OpsJ (w : World) (a : Option Addr) (n : Nat) (L : Nat → OpJ) : Prop :=
  ∀ i, i < n → ∃ b off, a = some ⟨b, off, none⟩ ∧ LayJ b (off + i * 4) (L i) w ∧ (L i).n ≤ 9223372036854775807 ∧ (L i).x.size ≤ 140737488355328
theorem LayJ.up {b k : Nat} {o : OpJ} {w w' : World} (h : LayJ b k o w) (q : Below w.heap.size w w') : LayJ b k o w' := ⟨kcell q h.1, kcell q h.2.1, kcell q h.2.2.1, kcell q h.2.2.2⟩
theorem OpsJ.up {w w' : World} {a : Option Addr} {n : Nat} {L : Nat → OpJ} (h : OpsJ w a n L) (q : Below w.heap.size w w') : OpsJ w' a n L := fun i hi => by
  obtain ⟨b, off, e, hl, h2⟩ := h i hi
  exact ⟨b, off, e, hl.up q, h2⟩
theorem LayJ.lt {b k : Nat} {o : OpJ} {w : World} (h : LayJ b k o w) : b < w.heap.size := World.block_lt_of_cell? _ _ h.1

/-- so many bytes; if they are few, each has few -/
def SizeR (w : World) (n : Nat) (L : Nat → OpJ) (e : Ending) (w' : World) : Prop := ∃ N : Int, e = .returned (.int .i64 N) ∧ (0 ≤ N ∧ N ≤ 140737488555328) ∧ (N ≤ 4000 → ∀ i, i < n → (L i).x.size ≤ 4000) ∧ w = w'
set_option maxHeartbeats 1000000 in
theorem size_any (w : World) (a : Option Addr) (n c : Nat) (L : Nat → OpJ) (hL : OpsJ w a n L) (hn : n ≤ 9223372036854775807) : Calls Tryz.prog 5 #[.slice a n c] w (SizeR w n L) := by
  have HL := Lib.hid hL
  clear hL
  go_enter Tryz.func5, Tryz.ntmps5
  go_wp2
  go_loopw [3, 4] (fun z i wr => ∃ (k : Nat) (Z : Int), k ≤ n ∧ 0 ≤ Z ∧ Z ≤ 140737488555328 ∧ i = .int .i64 (k : Int) ∧ z = .int .i64 Z ∧ Hid (w = wr ∧ ∀ q, q < k → ((L q).x.size : Int) + 1 ≤ Z)) (fun _ i _ => n - (intOf i).toNat)
  case atStart => exact ⟨0, 0, Nat.zero_le _, by omega, by omega, rfl, rfl, rfl, fun q z => absurd z (by omega)⟩
  case round =>
    obtain ⟨k, Z, hk, hz0, hz1, rfl, rfl, HI⟩ := hrel
    by_cases hlt : k < n
    · by_cases hz : Z < 100000
      · obtain ⟨b, off, rfl, hl, h2, h3⟩ := HL.out k hlt
        obtain ⟨x, hx⟩ : ∃ x, x = (L k).x := ⟨_, rfl⟩
        have c3 : w.cell? ⟨b, off + k * 4 + 3, none⟩ = some (.string x) := by rw [hx]; exact hl.2.2.2
        rw [← hx] at h3
        have HX := Lib.hid hx
        have hw : w = wr := HI.out.1
        subst hw
        have HQ := Lib.hid HI.out.2
        have hdec : decide (Z < 100000) = true := by simp; omega
        clear hl h2 hx HI
        go_wp2
        go_roundw
        case rel =>
          refine ⟨k + 1, Z + ((x.size : Int) + 1), by omega, by omega, by omega, by go_num, by go_num, trivial, fun q hq => ?_⟩
          by_cases e : q = k
          · subst e; rw [← HX.out]; omega
          · have := HQ.out q (by omega); omega
        case measure => simp [intOf]; omega
      · have hdec : decide (Z < 100000) = false := by simp; omega
        go_wp2
        go_ret
        exact ⟨Z, rfl, ⟨hz0, hz1⟩, fun z => absurd z (by omega), HI.out.1⟩
    · obtain rfl : k = n := by omega
      go_wp2
      go_ret
      exact ⟨Z, rfl, ⟨hz0, hz1⟩, fun z i hi => by have := HI.out.2 i hi; omega, HI.out.1⟩
end Go.Proofs.YtjffcgimdffkoaaGreatDoor
