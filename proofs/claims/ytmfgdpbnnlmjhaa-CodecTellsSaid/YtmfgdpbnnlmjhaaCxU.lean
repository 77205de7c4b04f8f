/- CodecTells: the program and the reference give the same answers. -/
import Derived.Test.YtmfgdpbnnlmjhaaCxT
import Derived.Test.YtmfgdpbnnlmjhaaCxL
namespace Go.Proofs.Ytmfgdpbnnlmjhaa
open Go.RowKit

/-- a command's bytes, or that there are none: of both -/
theorem put_both (k : Int) (a : Option Addr) (c : Nat) (xs : List Int) (hm : ∀ x ∈ xs, Am x) :
    ∃ (R : ByteArray) (E : Int), ∀ w, NumA w a xs →
      (Calls Try.prog 8 #[.agg #[.int .i64 k, .slice a xs.length c]] w fun e w' => e = .returned (.tuple #[.string R, .int .i64 E]) ∧ Below w.heap.size w w') ∧
      (Calls Try.prog 9 #[.agg #[.int .i64 k, .slice a xs.length c]] w fun e w' => e = .returned (.tuple #[.string R, .int .i64 E]) ∧ Below w.heap.size w w') := by
  by_cases h : PutOk k xs
  · exact ⟨_, 0, fun w hX => ⟨put_ok k a c xs w hX hm h, kput_ok k a c xs w hX hm h⟩⟩
  · exact ⟨_, 2, fun w _ => ⟨put_no k a xs.length c w h, kput_no k a xs.length c w h⟩⟩
theorem read_both (s : ByteArray) (hs : s.size ≤ 1000000) :
    ∃ (K : Int) (ys : List Int) (E : Int), ys.length ≤ 100000 ∧ ∀ w,
      (Calls Try.prog 10 #[.string s] w fun e w' => ∃ a c, e = .returned (.tuple #[.agg #[.int .i64 K, .slice a ys.length c], .int .i64 E]) ∧ NumA w' a ys ∧ Below w.heap.size w w') ∧
      (Calls Try.prog 11 #[.string s] w fun e w' => ∃ a c, e = .returned (.tuple #[.agg #[.int .i64 K, .slice a ys.length c], .int .i64 E]) ∧ NumA w' a ys ∧ Below w.heap.size w w') := by
  obtain ⟨o, ho⟩ := rd_ex s.data.toList
  have hl : s.data.toList.length ≤ 1000000 := by rw [list_size]; exact hs
  cases o with
  | none =>
    refine ⟨0, [], 2, by simp, fun w => ⟨?_, ?_⟩⟩
    · have := read_no s.data.toList w hl ho
      rw [str_of] at this
      exact this.mono fun e w' ⟨h1, h2⟩ => ⟨none, 0, h1, .inl rfl, h2⟩
    · have := kread_no s.data.toList w hl ho
      rw [str_of] at this
      exact this.mono fun e w' ⟨h1, h2⟩ => ⟨none, 0, h1, .inl rfl, h2⟩
  | some p =>
    obtain ⟨K, ys⟩ := p
    refine ⟨K, ys, 0, by have := ho.2.1; simp only at this; omega, fun w => ⟨?_, ?_⟩⟩
    · have := read_yes s.data.toList K ys w hl ho
      rwa [str_of] at this
    · have := kread_yes s.data.toList K ys w hl ho
      rwa [str_of] at this
theorem take_both (s : ByteArray) : ∃ n u E : Int, ∀ w,
      (Calls Try.prog 12 #[.string s] w fun e w' => e = .returned (.tuple #[.int .i64 n, .int .i64 u, .int .i64 E]) ∧ w = w') ∧
      (Calls Try.prog 13 #[.string s] w fun e w' => e = .returned (.tuple #[.int .i64 n, .int .i64 u, .int .i64 E]) ∧ Below w.heap.size w w') := by
  obtain ⟨a, ha⟩ := tk_ex s.data.toList
  cases a with
  | none => exact ⟨_, _, _, fun w => ⟨take_any s none w ha, ktake_any s none w ha⟩⟩
  | some n => exact ⟨_, _, _, fun w => ⟨take_any s (some n) w ha, ktake_any s (some n) w ha⟩⟩
set_option maxRecDepth 100000 in
set_option maxHeartbeats 8000000 in
theorem tells_any (n k : Int) (a : Option Addr) (ca : Nat) (xs : List Int) (s : ByteArray) (w : World) (hn : Am n) (hA : NumA w a xs) (hx : ∀ x ∈ xs, Am x) :
    Calls Try.prog 3 #[.int .i64 n, .agg #[.int .i64 k, .slice a xs.length ca], .string s] w fun e w' => e = .returned (.bool true) ∧ Below w.heap.size w w' := by
  have HAW := Lib.hid awake_any
  have HN := Lib.hid (fun W => number_any n W hn)
  have HM := Lib.hid (fun W => knum_any n W hn)
  obtain ⟨X, hXX⟩ : ∃ X, X = str (enc (fold n)) := ⟨_, rfl⟩
  rw [← hXX] at HN HM
  obtain ⟨t1, t2, t3, hT⟩ := take_both s
  have HT := Lib.hid hT
  obtain ⟨R, E, hP⟩ := put_both k a ca xs hx
  have HP := Lib.hid hP
  have HAX := Lib.hid hA
  obtain ⟨C, hC⟩ : ∃ C, C = (#[.int .i64 k, .slice a xs.length ca] : Array Value) := ⟨_, rfl⟩
  obtain ⟨N, hN⟩ : ∃ N, N = xs.length := ⟨_, rfl⟩
  rw [← hN] at HP hC
  rw [← hN]
  have eX : (X.toList == X.toList) = true := by simp
  have eR : (R.toList == R.toList) = true := by simp
  clear hXX hn hT hP hA hx hN
  go_enter Try.func3, Try.ntmps3
  go_wp2_with fail
  have K1 := Lib.hid (Cb.fresh w C)
  rw [hC] at K1
  obtain ⟨g, hg⟩ : ∃ g, g = w.heap.size := ⟨_, rfl⟩
  obtain ⟨w1, hw1⟩ : ∃ w1, w1 = w.alloc (.cells #[.int .i64 k, .slice a N ca] 24) := ⟨_, rfl⟩
  rw [← hw1, ← hg] at K1
  rw [← hw1, ← hg]
  clear hw1 hg hC
  refine (HAW.out _).mono ?_
  rintro e w2 ⟨rfl, hb2⟩
  have K2 := Lib.hid (K1.out.up hb2)
  have c0 : w2.cell? ⟨g, 0, none⟩ = some (.int .i64 k) := K2.out.h.cell 0
  have c1 : w2.cell? ⟨g, 1, none⟩ = some (.slice a N ca) := K2.out.h.cell 1
  clear hb2 K1 HAW
  by_cases hq1 : 70 < N
  · have hq2 : (70 : Int) < (N : Int) := by omega
    go_wp2
    go_ret
    exact ⟨rfl, K2.out.bel⟩
  have hq2 : ¬ ((70 : Int) < (N : Int)) := by omega
  by_cases hq3 : 3000 < s.size
  · have hq4 : (3000 : Int) < (s.size : Int) := by omega
    go_wp2
    go_ret
    exact ⟨rfl, K2.out.bel⟩
  have hq4 : ¬ ((3000 : Int) < (s.size : Int)) := by omega
  obtain ⟨K, ys, F, hy, hR⟩ := read_both s (by omega)
  have HR := Lib.hid hR
  have HY := Lib.hid hy
  obtain ⟨M, hM⟩ : ∃ M, M = ys.length := ⟨_, rfl⟩
  have HLN : Hid (∀ W a' c' b' d', NumA W a' ys → NumA W b' ys → Calls Try.prog 16 #[.slice a' M c', .slice b' M d'] W fun e w' => e = .returned (.bool true) ∧ ∃ n, w' = W.drewN n) := fun W a' c' b' d' h1 h2 => by
    have := longs_any a' b' c' d' ys ys W h1 h2 HY.out
    rw [decide_eq_true rfl, ← hM] at this
    exact this
  rw [← hM] at HR
  clear hR hy hM HY
  go_wp2_with fail
  refine (HP.out _ (HAX.out.up K2.out.bel)).1.mono ?_
  rintro e w3 ⟨rfl, hb3⟩
  have K3 := Lib.hid (K2.out.up hb3)
  clear hb3 K2 c0 c1
  have c0 : w3.cell? ⟨g, 0, none⟩ = some (.int .i64 k) := K3.out.h.cell 0
  have c1 : w3.cell? ⟨g, 1, none⟩ = some (.slice a N ca) := K3.out.h.cell 1
  go_wp2_with fail
  refine (HP.out _ (HAX.out.up K3.out.bel)).2.mono ?_
  rintro e w4 ⟨rfl, hb4⟩
  have L4 := Lib.hid (up2 K3.out.bel hb4)
  clear hb4 K3 c0 c1 HP HAX
  go_wp2_with fail
  refine (HR.out _).1.mono ?_
  rintro e w5 ⟨a5, c5, rfl, hn5, hb5⟩
  go_wp2_with fail
  have bx5 := boxed w5 (.cells #[.int .i64 K, .slice a5 M c5] 24)
  have hx5 := Has.fresh w5 24 #[.int .i64 K, .slice a5 M c5]
  obtain ⟨w6, hw6⟩ : ∃ w6, w6 = w5.alloc (.cells #[.int .i64 K, .slice a5 M c5] 24) := ⟨_, rfl⟩
  rw [← hw6] at bx5 hx5
  rw [← hw6]
  clear hw6
  obtain ⟨g5, hg5⟩ : ∃ g5, g5 = w5.heap.size := ⟨_, rfl⟩
  have L6 := Lib.hid (up2 L4.out (up2 hb5 bx5))
  have N6 := Lib.hid (hn5.up bx5)
  rw [← hg5] at hx5
  rw [← hg5]
  have X6 := Lib.hid hx5
  clear hn5 hb5 bx5 hx5 hg5 L4
  refine (HR.out _).2.mono ?_
  rintro e w7 ⟨a7, c7, rfl, hn7, hb7⟩
  go_wp2_with fail
  have bx7 := boxed w7 (.cells #[.int .i64 K, .slice a7 M c7] 30)
  have hx7 := Has.fresh w7 30 #[.int .i64 K, .slice a7 M c7]
  obtain ⟨w8, hw8⟩ : ∃ w8, w8 = w7.alloc (.cells #[.int .i64 K, .slice a7 M c7] 30) := ⟨_, rfl⟩
  rw [← hw8] at bx7 hx7
  rw [← hw8]
  clear hw8
  obtain ⟨g7, hg7⟩ : ∃ g7, g7 = w7.heap.size := ⟨_, rfl⟩
  have b68 := up2 hb7 bx7
  have L8 := Lib.hid (up2 L6.out b68)
  have N8 := Lib.hid (N6.out.up b68)
  have P8 := Lib.hid (hn7.up bx7)
  have X8 := Lib.hid (X6.out.up b68)
  rw [← hg7] at hx7
  rw [← hg7]
  have Y8 := Lib.hid hx7
  clear hn7 hb7 bx7 hx7 hg7 b68 L6 N6 X6 HR
  refine (HT.out _).1.mono ?_
  rintro e w' ⟨rfl, rfl⟩
  go_wp2_with fail
  refine (HT.out _).2.mono ?_
  rintro e w9 ⟨rfl, hb9⟩
  go_wp2_with fail
  refine (HN.out _).mono ?_
  rintro e w10 ⟨rfl, hb10⟩
  go_wp2_with fail
  refine (HM.out _).mono ?_
  rintro e w11 ⟨rfl, hb11⟩
  have b811 := up2 (up2 hb9 hb10) hb11
  have L11 := Lib.hid (up2 L8.out b811)
  have N11 := Lib.hid (N8.out.up b811)
  have P11 := Lib.hid (P8.out.up b811)
  have x0 : w11.cell? ⟨g5, 0, none⟩ = some (.int .i64 K) := (X8.out.up b811).cell 0
  have x1 : w11.cell? ⟨g5, 1, none⟩ = some (.slice a5 M c5) := (X8.out.up b811).cell 1
  have y0 : w11.cell? ⟨g7, 0, none⟩ = some (.int .i64 K) := (Y8.out.up b811).cell 0
  have y1 : w11.cell? ⟨g7, 1, none⟩ = some (.slice a7 M c7) := (Y8.out.up b811).cell 1
  clear hb9 hb10 hb11 b811 L8 N8 P8 X8 Y8 HT HN HM
  go_wp2_with fail
  refine (HLN.out _ _ _ _ _ N11.out P11.out).mono ?_
  rintro e w12 ⟨rfl, q, hw12⟩
  have L12 : Hid (Below w.heap.size w w12) := by rw [hw12]; exact blw L11.out q
  clear hw12 x0 x1 y0 y1
  go_wp2
  go_ret
  exact ⟨rfl, L12.out⟩
end Go.Proofs.Ytmfgdpbnnlmjhaa
