/- The program's store: a write. -/
import Derived.StillTailTactics
import Derived.Lib.SlBuf
import Derived.Test.YtjffcgimdffkoaaGreatDoorStA
namespace Go.Proofs.YtjffcgimdffkoaaGreatDoor
open Go.RowKit

theorem over_at (L X : List Value) (o m : Nat) (h : o + X.length ≤ L.length) :
    (L.take o ++ X ++ L.drop (o + X.length))[m]? = if m < o then L[m]? else if m < o + X.length then X[m - o]? else L[m]? := by
  have ht : (L.take o).length = o := by simp; omega
  rw [List.append_assoc, List.getElem?_append, ht]
  by_cases q : m < o
  · rw [if_pos q, if_pos q, List.getElem?_take_of_lt q]
  · rw [if_neg q, if_neg q, List.getElem?_append]
    by_cases r : m < o + X.length
    · rw [if_pos (by omega), if_pos r]
    · rw [if_neg (by omega), if_neg r, List.getElem?_drop]
      congr 1; omega

/-- the bytes x laid over the beginning of block k -/
theorem lies_over {cs : Array Value} {n k : Nat} {B : Nat → ByteArray} {x z : ByteArray} (h : Lies cs n B) (hs : ∀ i, i < n → (B i).size = 64) (hk : k < n) (hx : x.size ≤ 64)
    (hz : z.data.toList = x.data.toList ++ (B k).data.toList.drop x.size) :
    Lies (cs.toList.take (k * 64) ++ Lib.byteCells x.data.toList ++ cs.toList.drop (k * 64 + x.size)).toArray n (upd B k z) := by
  obtain ⟨h1, h2⟩ := h
  have hl : (Lib.byteCells x.data.toList).length = x.size := by rw [Lib.byteCells_length, ← Lib.size_eq]
  have hf : k * 64 + (Lib.byteCells x.data.toList).length ≤ cs.toList.length := by rw [hl, Array.length_toList, h1]; omega
  have hb := hs k hk
  have hzs : z.size = 64 := by
    rw [Lib.size_eq, hz, List.length_append, List.length_drop, ← Lib.size_eq, ← Lib.size_eq]; omega
  rw [← hl]
  refine ⟨by simp [hl, h1]; omega, fun i hi j hj => ?_⟩
  rw [List.getElem?_toArray, over_at _ _ _ _ hf, hl]
  by_cases e : i = k
  · subst e
    rw [upd_at] at hj
    simp only [upd_at]
    rw [if_neg (by omega)]
    have hz' : some z[j] = (x.data.toList ++ (B i).data.toList.drop x.size)[j]? := by rw [← hz, byte_at z j hj]
    rw [List.getElem?_append, ← Lib.size_eq] at hz'
    by_cases q : j < x.size
    · rw [if_pos (by omega), show i * 64 + j - i * 64 = j by omega]
      rw [if_pos q, byte_at x j q] at hz'
      unfold Lib.byteCells
      rw [List.getElem?_map, byte_at x j q, Option.some.inj hz']
      rfl
    · rw [if_neg (by omega), Array.getElem?_toList, h2 i hi j (by omega)]
      rw [if_neg q, List.getElem?_drop, show x.size + (j - x.size) = j by omega, byte_at (B i) j (by omega)] at hz'
      rw [Option.some.inj hz']
  · have hj' : j < (B i).size := by rw [upd_far _ _ e] at hj; exact hj
    have hbi := hs i hi
    simp only [upd_far _ _ e]
    have hne : i * 64 + j < k * 64 ∨ k * 64 + 64 ≤ i * 64 + j := by omega
    rcases hne with q | q
    · rw [if_pos q, Array.getElem?_toList, h2 i hi j hj']
    · rw [if_neg (by omega), if_neg (by omega), Array.getElem?_toList, h2 i hi j hj']

theorem torn_data {x y : ByteArray} {t : Nat} (hx : x.size = 64) (ht : t ≤ 64) : (torn x y t).data.toList = (x.extract 0 t).data.toList ++ y.data.toList.drop (x.extract 0 t).size := by
  unfold torn
  have e : (x.extract 0 t).size = t := by simp [ByteArray.size_extract, hx]; omega
  rw [e]
  simp only [ByteArray.data_append, Array.toList_append, Lib.extract_data]
  congr 1
  rw [List.take_of_length_le (by rw [List.length_drop, ← Lib.size_eq]; omega)]

/-- the store's blocks behind a row that was written -/
theorem St.row_put {w : World} {p b : Nat} {s s' : SS} (h : St w p b s) (cs : Array Value) (hl : Lies cs s'.n s'.B) (hh : heads b s' = heads b s) : St (w.setRow b cs) p b s' := by
  obtain ⟨cs0, hc, _⟩ := h.row
  refine ⟨?_, cs, setRow_heap w b _ _ 84 _ hc, hl⟩
  rw [hh]
  exact (setRow_other w b p cs h.ne).trans h.head
theorem But.row (p b : Nat) (w : World) (cs : Array Value) : But p b w (w.setRow b cs) := ⟨rfl, rfl, rfl, by simp, fun k _ _ r => setRow_other w b k cs r⟩
theorem But.drew {p b : Nat} {w w' : World} (h : But p b w w') : But p b w.drew w' := ⟨h.os, h.tape, h.output, h.size, h.block⟩
theorem But.drewN {p b : Nat} {w w' : World} (n : Nat) (h : But p b (w.drewN n) w') : But p b w w' := ⟨h.os, h.tape, h.output, h.size, h.block⟩

set_option maxRecDepth 100000 in
set_option maxHeartbeats 1000000 in
theorem tear_any (w : World) (p b : Nat) (s : SS) (a : Int) (x : ByteArray) (m : Int) (h : St w p b s) (hF : Fine s m) (h0 : 0 ≤ a) (h1 : a < s.n) (hx : x.size = 64) :
    Calls Tryz.prog 42 #[.pointer (some ⟨p, 0, none⟩), .int .i64 a, .string x] w fun e w' => e = .returned (.tuple #[]) ∧ St w' p b { s with B := upd s.B a.toNat (torn x (s.B a.toNat) s.ft.toNat), pw := false } ∧ But p b w w' := by
  have c0 := h.c0
  have c4 := h.c4
  obtain ⟨cs, hc, hl⟩ := h.row
  have t0 := hF.ft.1
  have t1 := hF.ft.2
  have ha : a.toNat < s.n := by omega
  have hsz : (x.extract 0 s.ft.toNat).size ≤ 64 := by simp [ByteArray.size_extract]; omega
  have hr := Lib.run_copy_row_string (P := Tryz.prog) w.drew 46 9 3 5 b (a.toNat * 64) 64 64 (x.extract 0 s.ft.toNat) cs 84 Tryz.underlying46 (by kernel_rfl) hc hsz (by rw [hl.1]; omega)
  have hS : St (w.drew.setRow b (cs.toList.take (a.toNat * 64) ++ Lib.byteCells (x.extract 0 s.ft.toNat).data.toList ++ cs.toList.drop (a.toNat * 64 + (x.extract 0 s.ft.toNat).size)).toArray) p b { s with B := upd s.B a.toNat (torn x (s.B a.toNat) s.ft.toNat) } :=
    St.row_put (w := w.drew) (s := s) ⟨h.head, h.row⟩ _ (lies_over hl hF.sz ha hsz (torn_data hx (by omega))) rfl
  have hK : But p b w (w.drew.setRow b (cs.toList.take (a.toNat * 64) ++ Lib.byteCells (x.extract 0 s.ft.toNat).data.toList ++ cs.toList.drop (a.toNat * 64 + (x.extract 0 s.ft.toNat).size)).toArray) :=
    (⟨rfl, rfl, rfl, Nat.le_refl _, fun _ _ _ _ => rfl⟩ : But p b w w.drew).trans (But.row p b w.drew _)
  obtain ⟨W1, hW⟩ : ∃ W1, W1 = w.drew.setRow b (cs.toList.take (a.toNat * 64) ++ Lib.byteCells (x.extract 0 s.ft.toNat).data.toList ++ cs.toList.drop (a.toNat * 64 + (x.extract 0 s.ft.toNat).size)).toArray := ⟨_, rfl⟩
  rw [← hW] at hr hS hK
  have HR := Lib.hid hr
  have HS := Lib.hid hS
  have HK := Lib.hid hK
  have c1 := hS.c1
  have f1 := hS.head.free 1
  have t2 : s.ft ≤ (x.size : Int) := by omega
  clear h hF hr hS hK hW hc hl hsz ha
  go_enter Tryz.func42, Tryz.ntmps42
  go_wp2
  go_still_tail 14, (by kernel_rfl)
  change wpList _ _ _ _ _ w.drew
  refine Lib.wpList_copy_run _ rfl (.tmp 12) (.tmp 19) 46 9 rfl _ _ rfl rfl HR.out ?_
  go_wp2
  go_end0
  exact ⟨rfl, HS.out.put ((But.refl p p W1).to 1 (.bool false)) (HS.out.head.put 1 _) rfl rfl, HK.out.trans ((But.refl p p W1).to 1 (.bool false)).wide⟩

set_option maxHeartbeats 400000 in
theorem write_arg (w : World) (p b : Nat) (s : SS) (a : Int) (x : ByteArray) (h : St w p b s) (q : ¬ inR s a x) :
    Calls Tryz.prog 16 #[.pointer (some ⟨p, 0, none⟩), .int .i64 a, .string x] w fun e w' => e = .returned (.int .i64 1) ∧ w = w' := by
  have H := Lib.hid h
  have Q := Lib.hid q
  clear q
  by_cases r : 0 ≤ a ∧ a < s.n
  · have hx : ((x.size : Int) == 64) = false := by
      have : x.size ≠ 64 := fun e => Q.out ⟨r.1, r.2, e⟩
      simp; omega
    have R := Lib.hid r
    clear h r
    go_enter Tryz.func16, Tryz.ntmps16
    go_wp2_with fail
    refine (has_yes w p b s a H.out R.out.1 R.out.2).mono ?_
    rintro e w' ⟨rfl, rfl⟩
    go_wp2
    go_ret
    exact ⟨rfl, rfl⟩
  · have R := Lib.hid r
    clear h r
    go_enter Tryz.func16, Tryz.ntmps16
    go_wp2_with fail
    refine (has_no w p b s a H.out R.out).mono ?_
    rintro e w' ⟨rfl, rfl⟩
    go_wp2
    go_ret
    exact ⟨rfl, rfl⟩
set_option maxHeartbeats 400000 in
theorem write_down (w : World) (p b : Nat) (s : SS) (a : Int) (x : ByteArray) (h : St w p b s) (q : inR s a x) (hp : s.pw = false) :
    Calls Tryz.prog 16 #[.pointer (some ⟨p, 0, none⟩), .int .i64 a, .string x] w fun e w' => e = .returned (.int .i64 9) ∧ w = w' := by
  have H := Lib.hid h
  have Q := Lib.hid q
  have hx : ((x.size : Int) == 64) = true := by
    have := q.2.2
    simp; omega
  have c1 := h.c1
  rw [hp] at c1
  clear q h hp
  go_enter Tryz.func16, Tryz.ntmps16
  go_wp2_with fail
  refine (has_yes w p b s a H.out Q.out.1 Q.out.2.1).mono ?_
  rintro e w' ⟨rfl, rfl⟩
  go_wp2
  go_ret
  exact ⟨rfl, rfl⟩
set_option maxHeartbeats 400000 in
theorem write_tear (w : World) (p b : Nat) (s : SS) (a : Int) (x : ByteArray) (m : Int) (h : St w p b s) (hF : Fine s m) (q : inR s a x) (hp : s.pw = true) (hd : s.ld = true) (h0 : s.fw = 0) :
    Calls Tryz.prog 16 #[.pointer (some ⟨p, 0, none⟩), .int .i64 a, .string x] w fun e w' => e = .returned (.int .i64 9) ∧ St w' p b { s with B := upd s.B a.toNat (torn x (s.B a.toNat) s.ft.toNat), pw := false } ∧ But p b w w' := by
  have H := Lib.hid h
  have Q := Lib.hid q
  have HF := Lib.hid hF
  have hx : ((x.size : Int) == 64) = true := by
    have := q.2.2
    simp; omega
  have c1 := h.c1
  have c2 := h.c2
  have c3 := h.c3
  rw [hp] at c1
  rw [hd] at c2
  rw [h0] at c3
  clear q h hp hd h0 hF
  go_enter Tryz.func16, Tryz.ntmps16
  go_wp2_with fail
  refine (has_yes w p b s a H.out Q.out.1 Q.out.2.1).mono ?_
  rintro e w' ⟨rfl, rfl⟩
  go_wp2_with fail
  refine (tear_any w p b s a x m H.out HF.out Q.out.1 Q.out.2.1 Q.out.2.2).mono ?_
  rintro e w' ⟨rfl, hs, hk⟩
  have HS := Lib.hid hs
  have HK := Lib.hid hk
  clear hs hk
  go_wp2
  go_ret
  exact ⟨rfl, HS.out, HK.out⟩
set_option maxRecDepth 100000 in
set_option maxHeartbeats 1000000 in
theorem write_ok (w : World) (p b : Nat) (s : SS) (a : Int) (x : ByteArray) (m : Int) (h : St w p b s) (hF : Fine s m) (hm : m ≤ 1000000) (q : inR s a x) (hp : s.pw = true) (hd : ¬ (s.ld = true ∧ s.fw = 0)) :
    Calls Tryz.prog 16 #[.pointer (some ⟨p, 0, none⟩), .int .i64 a, .string x] w fun e w' => e = .returned (.int .i64 0) ∧ St w' p b { s with B := upd s.B a.toNat x, fw := if s.ld = true then s.fw - 1 else s.fw, mn := s.mn + 1 } ∧ But p b w w' := by
  obtain ⟨cs, hc, hl⟩ := h.row
  have ha : a.toNat < s.n := by have := q.1; have := q.2.1; omega
  have q0 := q.1
  have q1 := q.2.1
  have hr := Lib.run_copy_row_string (P := Tryz.prog) w 46 9 3 5 b (a.toNat * 64) 64 64 x cs 84 Tryz.underlying46 (by kernel_rfl) hc (by rw [q.2.2]; omega) (by rw [hl.1, q.2.2]; omega)
  have hS : St (w.setRow b (cs.toList.take (a.toNat * 64) ++ Lib.byteCells x.data.toList ++ cs.toList.drop (a.toNat * 64 + x.size)).toArray) p b { s with B := upd s.B a.toNat x } :=
    St.row_put (w := w) (s := s) h _ (lies_over hl hF.sz ha (by rw [q.2.2]; omega) (by rw [List.drop_of_length_le (by rw [← Lib.size_eq, hF.sz _ ha, q.2.2]; omega), List.append_nil])) rfl
  have hK := But.row p b w (cs.toList.take (a.toNat * 64) ++ Lib.byteCells x.data.toList ++ cs.toList.drop (a.toNat * 64 + x.size)).toArray
  obtain ⟨W1, hW⟩ : ∃ W1, W1 = w.setRow b (cs.toList.take (a.toNat * 64) ++ Lib.byteCells x.data.toList ++ cs.toList.drop (a.toNat * 64 + x.size)).toArray := ⟨_, rfl⟩
  rw [← hW] at hr hS hK
  have H := Lib.hid h
  have Q := Lib.hid q
  have HR := Lib.hid hr
  have HS := Lib.hid hS
  have HK := Lib.hid hK
  have hx : ((x.size : Int) == 64) = true := by
    have := q.2.2
    simp; omega
  have c0 := h.c0
  have c1 := h.c1
  have c2 := h.c2
  have c3 := h.c3
  rw [hp] at c1
  have d2 : W1.cell? ⟨p, 2, none⟩ = some (.bool s.ld) := hS.c2
  have d3 : W1.cell? ⟨p, 3, none⟩ = some (.int .i64 s.fw) := hS.c3
  have d5 : W1.cell? ⟨p, 5, none⟩ = some (.int .i64 s.mn) := hS.c5
  have f3 := hS.head.free 3
  have f5 := hS.head.free 5
  have m0 := hF.mn.1
  have m1 : s.mn ≤ 1000000 := by have := hF.mn.2; omega
  have v0 := hF.fw.1
  have v1 := hF.fw.2
  cases hld : s.ld
  · rw [hld] at c2 d2
    have HL := Lib.hid hld
    clear q h hp hd hF hr hS hK hW hc hl ha hm hld
    go_enter Tryz.func16, Tryz.ntmps16
    go_wp2_with fail
    refine (has_yes w p b s a H.out Q.out.1 Q.out.2.1).mono ?_
    rintro e w' ⟨rfl, rfl⟩
    go_wp2_with (refine Lib.wpList_copy_run _ rfl (.tmp 44) (.tmp 45) 46 9 rfl _ _ rfl rfl HR.out ?_)
    go_ret
    refine ⟨rfl, HS.out.put ((But.refl p p W1).to 5 _) ?_ rfl rfl, HK.out.trans ((But.refl p p W1).to 5 _).wide⟩
    have hq := HS.out.head.put 5 (.int .i64 (s.mn + 1))
    simp only [heads, HL.out] at hq ⊢
    exact hq
  · rw [hld] at c2 d2
    have hz : s.fw ≠ 0 := fun e => hd ⟨hld, e⟩
    have hz' : (s.fw == 0) = false := by simpa using hz
    have hz1 : 1 ≤ s.fw := by omega
    have HL := Lib.hid hld
    clear q h hp hd hF hr hS hK hW hc hl ha hm hld hz
    go_enter Tryz.func16, Tryz.ntmps16
    go_wp2_with fail
    refine (has_yes w p b s a H.out Q.out.1 Q.out.2.1).mono ?_
    rintro e w' ⟨rfl, rfl⟩
    go_wp2_with (refine Lib.wpList_copy_run _ rfl (.tmp 44) (.tmp 45) 46 9 rfl _ _ rfl rfl HR.out ?_)
    go_ret
    refine ⟨rfl, HS.out.put (((But.refl p p W1).to 3 _).to 5 _) ?_ rfl rfl, HK.out.trans (((But.refl p p W1).to 3 _).to 5 _).wide⟩
    have hq := (HS.out.head.put 3 (.int .i64 (s.fw - 1))).put 5 (.int .i64 (s.mn + 1))
    simp only [heads, HL.out] at hq ⊢
    exact hq

/-- a write, whatever the store and the bytes -/
theorem write_any (w : World) (p b : Nat) (s : SS) (a : Int) (x : ByteArray) (m : Int) (h : St w p b s) (hF : Fine s m) (hm : m ≤ 1000000) :
    Calls Tryz.prog 16 #[.pointer (some ⟨p, 0, none⟩), .int .i64 a, .string x] w fun e w' => e = .returned (.int .i64 (wrE s a x)) ∧ St w' p b (wrS s a x) ∧ But p b w w' := by
  unfold wrE wrS
  by_cases q : inR s a x
  · rw [if_pos q, if_pos q]
    by_cases hp : s.pw = false
    · rw [if_pos hp, if_pos hp]
      refine (write_down w p b s a x h q hp).mono ?_
      rintro e w' ⟨rfl, rfl⟩
      exact ⟨rfl, h, But.refl _ _ _⟩
    · rw [if_neg hp, if_neg hp]
      have hp' : s.pw = true := by simpa using hp
      by_cases hd : s.ld = true ∧ s.fw = 0
      · rw [if_pos hd, if_pos hd]
        exact write_tear w p b s a x m h hF q hp' hd.1 hd.2
      · rw [if_neg hd, if_neg hd]
        exact write_ok w p b s a x m h hF hm q hp' hd
  · rw [if_neg q, if_neg q]
    refine (write_arg w p b s a x h q).mono ?_
    rintro e w' ⟨rfl, rfl⟩
    exact ⟨rfl, h, But.refl _ _ _⟩
end Go.Proofs.YtjffcgimdffkoaaGreatDoor
