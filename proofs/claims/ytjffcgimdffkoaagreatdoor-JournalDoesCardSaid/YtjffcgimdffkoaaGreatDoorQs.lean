/- A number laid by bytes; what stands ahead of a record's bytes. -/
import Derived.Laws.Concat
import Derived.Lib.UnsafeStr
import Derived.Deep.RegionLaw
import Derived.Laws.AppendOwn
import Derived.OwnWalk
import Derived.Test.YtjffcgimdffkoaaGreatDoorRcA
import Derived.Test.YtjffcgimdffkoaaGreatDoorRcMath
namespace Go.Proofs.YtjffcgimdffkoaaGreatDoor
open Go.RowKit

/-- a number by k bytes, the highest one first -/
def be : Nat → Nat → List UInt8
  | 0, _ => []
  | k + 1, n => UInt8.ofNat (n / 256 ^ k) :: be k n
theorem be_len (k n : Nat) : (be k n).length = k := by induction k with
  | zero => rfl
  | succ k ih => simp [be, ih]
/-- a row of bytes as cells -/
def byA (l : List UInt8) : Array Value := (l.map fun c => Value.int .u8 (c.toNat : Int)).toArray
theorem byA_set (l : List UInt8) (i : Nat) (c : UInt8) : (byA l).setIfInBounds i (.int .u8 (c.toNat : Int)) = byA (l.set i c) := by simp [byA, List.map_set]
theorem byA_at (l : List UInt8) (i : Nat) (h : i < l.length) : (byA l)[i]? = some (.int .u8 ((l[i]).toNat : Int)) := by simp [byA, h]
theorem Has.bytes {w : World} {g t : Nat} {l : List UInt8} (h : Has w g t (byA l)) : Lib.Bytes w g 0 (str l) := fun j hj => by
  rw [Nat.zero_add, h.cell]
  have hj' : j < l.length := by rwa [str_size] at hj
  simp [byA, str, hj']
  rfl
theorem zeroB : (Tryz.prog.info? 5).map (fun i => (i.zero, i.size, i.bytes)) = some (some (.int .u8 0), 1, 1) := by kernel_rfl
theorem made_bytes (k : Nat) : madeCells (Value.int .u8 0).cells k = byA (List.replicate k 0) := by
  apply Array.ext
  · simp [madeCells, byA, Value.cells]
  · intro i h1 h2
    simp [madeCells, byA, Value.cells, Nat.mod_one]
theorem be_next (k i n : Nat) (h : i < k) : (List.replicate (k - i) (0 : UInt8) ++ be i n).set (k - 1 - i) (UInt8.ofNat (n / 256 ^ i)) = List.replicate (k - (i + 1)) 0 ++ be (i + 1) n := by
  have e : k - i = (k - 1 - i) + 1 := by omega
  rw [e, List.replicate_succ', List.append_assoc, List.set_append, if_neg (by simp), List.length_replicate, Nat.sub_self]
  rw [show k - (i + 1) = k - 1 - i by omega]
  rfl

set_option maxHeartbeats 1000000 in
theorem laid_any (n k : Nat) (w : World) (hn : n < 4294967296) (hk : k ≤ 4) :
    Calls Tryz.prog 92 #[.int .u32 (n : Int), .int .i64 (k : Int)] w fun e w' => e = .returned (.string (str (be k n))) ∧ Below w.heap.size w w' := by
  obtain ⟨i0, hi, hz0, hz1, hz2⟩ := info_parts zeroB
  have hmk : ∀ W : World, (Instr.makeSlice 46 (.int .i64 (k : Int)) (.int .i64 (k : Int))).run Tryz.prog W = .ok (.slice (some ⟨W.heap.size, 0, none⟩) k k) (W.alloc (.cells (byA (List.replicate k 0)) 5)) := fun W => by
    rw [run_make W 46 5 i0 _ Tryz.underlying46 hi hz0 .i64 .i64 k k (by omega) (by omega) (by rw [hz2]; omega) (by omega), hz1, ← made_bytes]
    simp
  clear hi hz0 hz1 hz2
  obtain ⟨C, hC⟩ : ∃ C, C = byA (List.replicate k 0) := ⟨_, rfl⟩
  rw [← hC] at hmk
  have HC := Lib.hid hC
  clear hC
  go_enter Tryz.func92, Tryz.ntmps92
  go_wp2
  obtain ⟨W0, hW⟩ : ∃ W0, W0 = w.alloc (.cells C 5) := ⟨_, rfl⟩
  have hb0 := Lib.hid (show Below w.heap.size w W0 by rw [hW]; exact boxed _ _)
  have hh0 := Lib.hid (show Has W0 w.heap.size 5 (byA (List.replicate k 0)) by rw [hW, ← HC.out]; exact Has.fresh _ _ _)
  rw [← hW]
  clear hW
  go_loopw [0, 11] (fun x i wr => ∃ j z : Nat, j ≤ k ∧ z < 4294967296 ∧ Hid (z = n / 256 ^ j) ∧ i = .int .i64 (j : Int) ∧ x = .int .u32 (z : Int) ∧ Hid (Below w.heap.size w wr ∧ Has wr w.heap.size 5 (byA (List.replicate (k - j) 0 ++ be j n)))) (fun _ i _ => k - (intOf i).toNat)
  case atStart => exact ⟨0, n, Nat.zero_le _, hn, by simp [Hid], rfl, rfl, hb0.out, by simpa [be] using hh0.out⟩
  case round =>
    obtain ⟨j, z, hj, hz, HZ, rfl, rfl, HW⟩ := hrel
    by_cases hlt : j < k
    · obtain ⟨q, hq⟩ : ∃ q, q = k - 1 - j := ⟨_, rfl⟩
      have hq' : (k : Int) - 1 - (j : Int) = (q : Int) := by omega
      obtain ⟨c, hc⟩ : ∃ c, c = UInt8.ofNat z := ⟨_, rfl⟩
      have hc' : (z : Int) % 256 = (c.toNat : Int) := by rw [hc, UInt8.toNat_ofNat']; omega
      have hlen : (List.replicate (k - j) (0 : UInt8) ++ be j n).length = k := by rw [List.length_append, List.length_replicate, be_len]; omega
      have hc0 : ∃ v0, wr.cell? ⟨w.heap.size, q, none⟩ = some (.int .u8 v0) := by
        rw [HW.out.2.cell]
        exact ⟨_, byA_at _ q (by omega)⟩
      obtain ⟨v0, hc0⟩ := hc0
      have hf0 := HW.out.2.free q
      have HN : Hid (Below w.heap.size w (wr.setCell ⟨w.heap.size, q, none⟩ (.int .u8 (c.toNat : Int))) ∧ Has (wr.setCell ⟨w.heap.size, q, none⟩ (.int .u8 (c.toNat : Int))) w.heap.size 5 (byA (List.replicate (k - (j + 1)) 0 ++ be (j + 1) n))) := by
        refine ⟨HW.out.1.setCell (Nat.le_refl _) _, ?_⟩
        have := HW.out.2.put q (.int .u8 (c.toNat : Int))
        rw [byA_set, hq, hc, HZ.out, be_next k j n hlt] at this
        rw [hq, hc, HZ.out]
        exact this
      have HZ2 : Hid (z / 256 = n / 256 ^ (j + 1)) := by
        show z / 256 = n / 256 ^ (j + 1)
        rw [HZ.out, Nat.div_div_eq_div_mul, Nat.pow_succ]
      have hd : ((z : Int) / 256) = ((z / 256 : Nat) : Int) := by omega
      obtain ⟨z2, hz2⟩ : ∃ z2, z2 = z / 256 := ⟨_, rfl⟩
      rw [← hz2] at HZ2 hd
      have hz26 : z2 < 4294967296 := by omega
      clear hq hc hlen HZ HW hz2 hmk
      go_wp2
      go_roundw
      case rel => exact ⟨j + 1, z2, by omega, hz26, HZ2, by go_num, rfl, HN⟩
      case measure => simp [intOf]; omega
    · have hjk : j = k := by omega
      have hcv := Lib.run_convert_whole (P := Tryz.prog) wr 46 5 9 Tryz.underlying46 Tryz.underlying5 Tryz.underlying9 w.heap.size 0 _ HW.out.2.bytes k
      rw [str_size, List.length_append, List.length_replicate, be_len, hjk, Nat.sub_self, Nat.zero_add, List.replicate_zero, List.nil_append] at hcv
      have HB := Lib.hid HW.out.1
      clear HW HZ hjk
      go_wp2
      go_ret
      exact ⟨rfl, HB.out⟩

theorem str_app (a b : List UInt8) : str a ++ str b = str (a ++ b) := by
  apply ByteArray.ext
  simp [str]
theorem app_size (a b : ByteArray) : (a ++ b).size = a.size + b.size := by simp
/-- the mark -/
def mk (m : Bool) : UInt8 := if m then 1 else 0
def frontL (l : List UInt8) (m : Bool) : List UInt8 := [mk m] ++ be 2 l.length ++ be 4 (crc l)
theorem front_len (l : List UInt8) (m : Bool) : (frontL l m).length = 7 := by simp [frontL, be_len]
set_option maxHeartbeats 1000000 in
theorem front_any (s : ByteArray) (m : Bool) (w : World) (hs : s.size ≤ 40000) (hT : Tb w) :
    Calls Tryz.prog 78 #[.string s, .bool m] w fun e w' => e = .returned (.string (str (frontL s.data.toList m))) ∧ Below w.heap.size w w' := by
  have e0 : (s.size : Int) % 4294967296 = (s.size : Int) := by omega
  have HL := Lib.hid (laid_any s.size 2 w (by omega) (by omega))
  have HK : Hid (∀ W : World, Tb W → Calls Tryz.prog 75 #[.string s] W fun e w' => e = .returned (.int .u32 ((crc s.data.toList : Nat) : Int)) ∧ W = w') := fun W h => chk_any s W (by unfold maxLen; omega) h
  have HC := crc_lt s.data.toList
  obtain ⟨c, hc⟩ : ∃ c, c = crc s.data.toList := ⟨_, rfl⟩
  rw [← hc] at HC HK
  have HL2 : Hid (∀ W : World, Calls Tryz.prog 92 #[.int .u32 (c : Int), .int .i64 4] W fun e w' => e = .returned (.string (str (be 4 c))) ∧ Below W.heap.size W w') := fun W => laid_any c 4 W HC (by omega)
  have HT := Lib.hid hT
  have HF : Hid (∀ x : UInt8, x = mk m → (⟨#[x]⟩ : ByteArray) ++ str (be 2 s.size) ++ str (be 4 c) = str (frontL s.data.toList m)) := by
    intro x hx
    have : (⟨#[x]⟩ : ByteArray) = str [x] := rfl
    rw [this, str_app, str_app, hx, hc, frontL, list_size]
  obtain ⟨A, hA⟩ : ∃ A, A = str (be 2 s.size) := ⟨_, rfl⟩
  obtain ⟨B, hB⟩ : ∃ B, B = str (be 4 c) := ⟨_, rfl⟩
  have sA : A.size = 2 := by rw [hA, str_size, be_len]
  have sB : B.size = 4 := by rw [hB, str_size, be_len]
  rw [← hA] at HL HF
  rw [← hB] at HL2 HF
  have HA := Lib.hid hA
  have HB := Lib.hid hB
  clear hA hB hc hT
  have q1 : ¬ (9223372036854775807 < 1 + A.size) := by omega
  have q2 : ¬ (9223372036854775807 < 1 + A.size + B.size) := by omega
  have SA := Lib.hid sA
  have SB := Lib.hid sB
  clear sA sB
  cases m
  all_goals
    go_enter Tryz.func78, Tryz.ntmps78
    go_wp2_with fail
    refine HL.out.mono ?_
    rintro e w1 ⟨rfl, hb1⟩
    have H1 := Lib.hid hb1
    clear hb1
    go_wp2_with fail
    refine (HK.out w1 (HT.out.up H1.out)).mono ?_
    rintro e w' ⟨rfl, rfl⟩
    go_wp2_with fail
    refine (HL2.out w1).mono ?_
    rintro e w2 ⟨rfl, hb2⟩
    have H2 := Lib.hid (up2 H1.out hb2)
    clear hb2
    go_wp2
    go_ret
    exact ⟨congrArg (fun x => Ending.returned (Value.string x)) (HF.out _ rfl), H2.out⟩
end Go.Proofs.YtjffcgimdffkoaaGreatDoor

namespace Go.Proofs.YtjffcgimdffkoaaGreatDoor
open Go.RowKit

def heads2 (r cap : Nat) (T : Int) (s : SS) : Array Value := #[.slice (some ⟨r, 0, none⟩) s.n (s.n + cap), .int .i64 (if s.ld = true then s.fw else -1), .int .i64 T, .bool (!s.pw), .int .i64 s.mn]
def Tld (cs : Array Value) (n : Nat) (B : Nat → ByteArray) : Prop := ∀ i, i < n → cs[i]? = some (.string (B i))
/-- the reference's store at q, its blocks at r, holds s -/
structure Rt (w : World) (q r : Nat) (s : SS) : Prop where
  head : ∃ cap T, Has w q 58 (heads2 r cap T s) ∧ (s.ld = true → s.ft = clamp T)
  row : ∃ cs, Has w r 9 cs ∧ Tld cs s.n s.B
theorem Rt.ne {w : World} {q r : Nat} {s : SS} (h : Rt w q r s) : q ≠ r := by
  obtain ⟨cs, hc, _⟩ := h.row
  obtain ⟨cap, T, hh, _⟩ := h.head
  exact hh.ne hc (by decide)
theorem Rt.up {w w' : World} {q r : Nat} {s : SS} (h : Rt w q r s) (k : Below w.heap.size w w') : Rt w' q r s :=
  ⟨by obtain ⟨cap, T, hh, ht⟩ := h.head; exact ⟨cap, T, hh.up k, ht⟩, by obtain ⟨cs, hc, hl⟩ := h.row; exact ⟨cs, hc.up k, hl⟩⟩
/-- the two stores lie apart -/
theorem Rt.but {w w' : World} {p b q r : Nat} {s s' : SS} (h : Rt w q r s) (hs : St w p b s') (k : But p b w w') : Rt w' q r s := by
  obtain ⟨cap, T, hh, ht⟩ := h.head
  obtain ⟨cs, hc, hl⟩ := h.row
  obtain ⟨ds, hd, _⟩ := hs.row
  exact ⟨⟨cap, T, k.has hh (hh.ne hs.head (by decide)) (hh.ne hd (by decide)), ht⟩, cs, k.has hc (hc.ne hs.head (by decide)) (hc.ne hd (by decide)), hl⟩
theorem St.but {w w' : World} {p b q r : Nat} {s s' : SS} (h : St w p b s) (hs : Rt w q r s') (k : But q r w w') : St w' p b s := by
  obtain ⟨cap, T, hh, ht⟩ := hs.head
  obtain ⟨cs, hc, hl⟩ := hs.row
  obtain ⟨ds, hd, hm⟩ := h.row
  exact ⟨k.has h.head (h.head.ne hh (by decide)) (h.head.ne hc (by decide)), ds, k.has hd (hd.ne hh (by decide)) (hd.ne hc (by decide)), hm⟩

set_option maxRecDepth 100000 in
set_option maxHeartbeats 400000 in
theorem zeros_any (w : World) : Calls Tryz.prog 26 #[] w fun e w' => e = .returned (.string (zs 64)) ∧ Below w.heap.size w w' := by
  obtain ⟨i0, hi, hz0, hz1, hz2⟩ := info_parts zeroB
  have hmk : ∀ W : World, (Instr.makeSlice 46 (.int .i64 64) (.int .i64 64)).run Tryz.prog W = .ok (.slice (some ⟨W.heap.size, 0, none⟩) 64 64) (W.alloc (.cells (madeCells (Value.int .u8 0).cells 64) 5)) := fun W => by
    rw [run_make W 46 5 i0 _ Tryz.underlying46 hi hz0 .i64 .i64 64 64 (by omega) (by omega) (by rw [hz2]; omega) (by omega), hz1]
    rfl
  have hcv : ∀ W : World, (convert 46 9 (.slice (some ⟨W.heap.size, 0, none⟩) 64 64)).run Tryz.prog (W.alloc (.cells (madeCells (Value.int .u8 0).cells 64) 5)) = .ok (.string (zs 64)) (W.alloc (.cells (madeCells (Value.int .u8 0).cells 64) 5)) := fun W => by
    have hb : Lib.Bytes (W.alloc (.cells (madeCells (Value.int .u8 0).cells 64) 5)) W.heap.size 0 (zs 64) := fun j hj => by
      have hj' : j < 64 := by rwa [zs_size] at hj
      rw [(Has.fresh W 5 (madeCells (Value.int .u8 0).cells 64)).cell]
      have hz : (zs 64)[j].toNat = 0 := by
        show ((zs 64).data[j]).toNat = 0
        simp [zs]
      simp [madeCells, Value.cells, hj', Nat.mod_one]
      omega
    have := Lib.run_convert_whole (P := Tryz.prog) _ 46 5 9 Tryz.underlying46 Tryz.underlying5 Tryz.underlying9 W.heap.size 0 (zs 64) hb 64
    rwa [zs_size] at this
  obtain ⟨C, hC⟩ : ∃ C, C = madeCells (Value.int .u8 0).cells 64 := ⟨_, rfl⟩
  simp only [← hC] at hmk hcv
  clear hi hz0 hz1 hz2 hC
  go_enter Tryz.func26, Tryz.ntmps26
  go_wp2
  go_ret
  exact ⟨rfl, boxed _ _⟩

set_option maxRecDepth 100000 in
set_option maxHeartbeats 400000 in
theorem rrestart_any (w : World) (q r : Nat) (s : SS) (h : Rt w q r s) :
    Calls Tryz.prog 20 #[.pointer (some ⟨q, 0, none⟩)] w fun e w' => e = .returned (.tuple #[]) ∧ Rt w' q r (reS s) ∧ But q r w w' := by
  have HR := Lib.hid h
  obtain ⟨cap, T, hh, ht⟩ := h.head
  have c1 : w.cell? ⟨q, 1, none⟩ = _ := hh.cell 1
  have c3 : w.cell? ⟨q, 3, none⟩ = _ := hh.cell 3
  have f1 := hh.free 1
  have f3 := hh.free 3
  have HH := Lib.hid hh
  simp [heads2] at c1 c3
  clear h hh ht
  go_enter Tryz.func20, Tryz.ntmps20
  go_wp2
  go_end0
  have K := ((But.refl q q w).to 1 (.int .i64 (-1))).to 3 (.bool false)
  refine ⟨rfl, ⟨⟨cap, T, ?_, by simp [reS]⟩, ?_⟩, K.wide⟩
  · exact (HH.out.put 1 (.int .i64 (-1))).put 3 (.bool false)
  · obtain ⟨cs, hc, hl⟩ := HR.out.row
    exact ⟨cs, K.has hc (Ne.symm HR.out.ne) (Ne.symm HR.out.ne), hl⟩
set_option maxRecDepth 100000 in
set_option maxHeartbeats 400000 in
theorem rfuse_any (w : World) (q r : Nat) (s : SS) (k t : Int) (h : Rt w q r s) :
    Calls Tryz.prog 15 #[.pointer (some ⟨q, 0, none⟩), .int .i64 k, .int .i64 t] w fun e w' => e = .returned (.tuple #[]) ∧ Rt w' q r (fuS s k t) ∧ But q r w w' := by
  have HR := Lib.hid h
  obtain ⟨cap, T, hh, ht⟩ := h.head
  have c1 : w.cell? ⟨q, 1, none⟩ = _ := hh.cell 1
  have c2 : w.cell? ⟨q, 2, none⟩ = _ := hh.cell 2
  have f1 := hh.free 1
  have f2 := hh.free 2
  have HH := Lib.hid hh
  simp [heads2] at c1 c2
  clear h hh ht
  by_cases z : k < 0
  · have e : fuS s k t = { s with ld := false, fw := 0, ft := 0 } := if_pos z
    rw [e]
    clear e
    go_enter Tryz.func15, Tryz.ntmps15
    go_wp2
    go_end0
    have K := (((But.refl q q w).to 1 (.int .i64 k)).to 1 (.int .i64 (-1))).to 2 (.int .i64 t)
    refine ⟨rfl, ⟨⟨cap, t, ?_, by simp⟩, ?_⟩, K.wide⟩
    · exact ((HH.out.put 1 (.int .i64 k)).put 1 (.int .i64 (-1))).put 2 (.int .i64 t)
    · obtain ⟨cs, hc, hl⟩ := HR.out.row
      exact ⟨cs, K.has hc (Ne.symm HR.out.ne) (Ne.symm HR.out.ne), hl⟩
  · have e : fuS s k t = { s with ld := true, fw := k, ft := clamp t } := if_neg z
    rw [e]
    clear e
    have z' : 0 ≤ k := by omega
    clear z
    go_enter Tryz.func15, Tryz.ntmps15
    go_wp2
    go_end0
    have K := ((But.refl q q w).to 1 (.int .i64 k)).to 2 (.int .i64 t)
    refine ⟨rfl, ⟨⟨cap, t, ?_, by simp⟩, ?_⟩, K.wide⟩
    · exact (HH.out.put 1 (.int .i64 k)).put 2 (.int .i64 t)
    · obtain ⟨cs, hc, hl⟩ := HR.out.row
      exact ⟨cs, K.has hc (Ne.symm HR.out.ne) (Ne.symm HR.out.ne), hl⟩
end Go.Proofs.YtjffcgimdffkoaaGreatDoor
