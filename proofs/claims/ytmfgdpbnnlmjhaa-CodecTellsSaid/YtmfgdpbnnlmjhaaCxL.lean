/- CodecBack. -/
import Derived.Test.YtmfgdpbnnlmjhaaCxJ
import Derived.Deep.DeepCutAuto
namespace Go.Proofs.Ytmfgdpbnnlmjhaa
open Go.RowKit

theorem rd_ex (l : List UInt8) : ∃ a, Rd l a := by
  by_cases h : ∃ (k : Nat) (xs : List Int), k ≤ 255 ∧ xs.length ≤ 64 ∧ (∀ x ∈ xs, Am x) ∧ l = putL k xs
  · obtain ⟨k, xs, h⟩ := h
    exact ⟨some (k, xs), h⟩
  · exact ⟨none, fun k xs h1 h2 h3 h4 => h ⟨k, xs, h1, h2, h3, h4⟩⟩
theorem pt_ex (l : List UInt8) : (∃ xs, Pt l (some (ls xs))) ∨ Pt l none := by
  by_cases h : ∃ ts, LsOk ts ∧ l = lstL ts
  · obtain ⟨ts, h⟩ := h
    obtain ⟨xs, rfl⟩ := ls_ex ts
    exact .inl ⟨xs, h⟩
  · exact .inr fun ts h1 h2 => h ⟨ts, h1, h2⟩
theorem flatL_len : ∀ ts : List (List UInt8), tot ts ≤ 1000000 → (flatL ts).length ≤ 10 * ts.length + tot ts := by
  intro ts
  induction ts with
  | nil => intro _; simp [flatL]
  | cons t ts ih =>
    intro ht
    have e : tot (t :: ts) = t.length + tot ts := by simp [tot]
    have := ih (by omega)
    have h2 := nl_ten (am_nat (n := t.length) (by omega))
    unfold nl at h2
    simp only [flatL, itm, List.length_append, List.length_cons]
    omega
theorem lstL_len {ts : List (List UInt8)} (h : ts.length + tot ts ≤ 3000) : (lstL ts).length ≤ 40000 := by
  have h1 := flatL_len ts (by omega)
  have h2 := nl_ten (am_nat (n := ts.length) (by omega))
  unfold nl at h2
  rw [lstL, List.length_append]
  omega
theorem putL_len {k : Int} {xs : List Int} (h : ∀ x ∈ xs, Am x) (hl : xs.length ≤ 64) : (putL k xs).length ≤ 1000 := by
  have := flat_len h
  simp only [putL, List.length_cons]
  omega
theorem putL_behind {k : Int} {xs : List Int} (hok : PutOk k xs) : Rd (putL k xs ++ [0]) none := by
  have : putL k xs ++ [0] = UInt8.ofNat k.toNat :: UInt8.ofNat xs.length :: (flat xs ++ [0]) := by simp [putL]
  rw [this]
  exact rd_behind (by rw [byte_of (by have := hok.2.2; omega)]) (by simp)
/-- a command's bytes, or that there are none -/
theorem put_ex (k : Int) (a : Option Addr) (c : Nat) (xs : List Int) (hm : ∀ x ∈ xs, Am x) :
    ∃ (R : ByteArray) (E : Int), ((E = 0 ∧ R = str (putL k xs) ∧ PutOk k xs) ∨ (E = 2 ∧ R = ⟨#[]⟩ ∧ ¬ PutOk k xs)) ∧ ∀ w, NumA w a xs →
      Calls Try.prog 8 #[.agg #[.int .i64 k, .slice a xs.length c]] w fun e w' => e = .returned (.tuple #[.string R, .int .i64 E]) ∧ Below w.heap.size w w' := by
  by_cases h : PutOk k xs
  · exact ⟨_, 0, .inl ⟨rfl, rfl, h⟩, fun w hX => put_ok k a c xs w hX hm h⟩
  · exact ⟨_, 2, .inr ⟨rfl, rfl, h⟩, fun w _ => put_no k a xs.length c w h⟩
theorem read_put (k : Int) (xs : List Int) (w : World) (hm : ∀ x ∈ xs, Am x) (hok : PutOk k xs) :
    Calls Try.prog 10 #[.string (str (putL k xs))] w fun e w' => ∃ a c, e = .returned (.tuple #[.agg #[.int .i64 k, .slice a xs.length c], .int .i64 0]) ∧ NumA w' a xs ∧ Below w.heap.size w w' := by
  obtain ⟨K, rfl⟩ : ∃ K : Nat, k = (K : Int) := ⟨k.toNat, by have := hok.1; omega⟩
  exact read_yes (putL K xs) K xs w (by have := putL_len (k := K) hm hok.2.2; omega) ⟨by have := hok.2.1; omega, hok.2.2, hm, rfl⟩
theorem read_put0 (k : Int) (xs : List Int) (w : World) (hm : ∀ x ∈ xs, Am x) (hok : PutOk k xs) :
    Calls Try.prog 10 #[.string (str (putL k xs) ++ ⟨#[0]⟩)] w fun e w' => e = .returned (.tuple #[.agg #[.int .i64 0, .slice none 0 0], .int .i64 2]) ∧ Below w.heap.size w w' := by
  have := read_no (putL k xs ++ [0]) w (by have := putL_len (k := k) hm hok.2.2; simp; omega) (putL_behind hok)
  rw [← sapp] at this
  exact this
theorem read_two (s : ByteArray) (hs : s.size ≤ 1000000) :
    ∃ (K : Int) (ys : List Int) (E : Int), ((E = 0 ∧ PutOk K ys ∧ (∀ y ∈ ys, Am y) ∧ s = str (putL K ys)) ∨ (E = 2 ∧ K = 0 ∧ ys = [])) ∧ ∀ w,
      Calls Try.prog 10 #[.string s] w fun e w' => ∃ a c, e = .returned (.tuple #[.agg #[.int .i64 K, .slice a ys.length c], .int .i64 E]) ∧ NumA w' a ys ∧ Below w.heap.size w w' := by
  obtain ⟨o, ho⟩ := rd_ex s.data.toList
  have hl : s.data.toList.length ≤ 1000000 := by rw [list_size]; exact hs
  cases o with
  | none =>
    refine ⟨0, [], 2, .inr ⟨rfl, rfl, rfl⟩, fun w => ?_⟩
    have := read_no s.data.toList w hl ho
    rw [str_of] at this
    exact this.mono fun e w' ⟨h1, h2⟩ => ⟨none, 0, h1, .inl rfl, h2⟩
  | some p =>
    obtain ⟨K, ys⟩ := p
    refine ⟨K, ys, 0, .inl ⟨rfl, ⟨by omega, by have := ho.1; simp only at this; omega, ho.2.1⟩, ho.2.2.1, ?_⟩, fun w => ?_⟩
    · rw [← ho.2.2.2, str_of]
    · have := read_yes s.data.toList K ys w hl ho
      rwa [str_of] at this
theorem list_two (b : Option Addr) (c : Nat) (ts : List ByteArray) :
    ∃ (R : ByteArray) (E : Int), ((E = 0 ∧ R = str (lstL (ls ts)) ∧ LsOk (ls ts)) ∨ (E = 4 ∧ R = ⟨#[]⟩ ∧ ¬ LsOk (ls ts))) ∧ ∀ w, StrA w b ts →
      Calls Try.prog 18 #[.slice b ts.length c] w fun e w' => e = .returned (.tuple #[.string R, .int .i64 E]) ∧ Below w.heap.size w w' := by
  by_cases h : LsOk (ls ts)
  · exact ⟨_, 0, .inl ⟨rfl, rfl, h⟩, fun w hX => list_ok b c ts w hX h⟩
  · exact ⟨_, 4, .inr ⟨rfl, rfl, h⟩, fun w hX => list_no b c ts w hX h⟩
theorem parts_two (s : ByteArray) (hs : s.size ≤ 1000000) :
    ∃ (ys : List ByteArray) (E : Int), ((E = 0 ∧ LsOk (ls ys) ∧ s = str (lstL (ls ys))) ∨ (E = 2 ∧ ys = [])) ∧ ∀ w,
      Calls Try.prog 20 #[.string s] w fun e w' => ∃ a c, e = .returned (.tuple #[.slice a ys.length c, .int .i64 E]) ∧ StrA w' a ys ∧ Below w.heap.size w w' := by
  have hl : s.data.toList.length ≤ 1000000 := by rw [list_size]; exact hs
  rcases pt_ex s.data.toList with ⟨ys, ho⟩ | ho
  · refine ⟨ys, 0, .inl ⟨rfl, ho.1, ?_⟩, fun w => ?_⟩
    · rw [← ho.2, str_of]
    · have := parts_yes s.data.toList ys w hl ho
      rwa [str_of] at this
  · refine ⟨[], 2, .inr ⟨rfl, rfl⟩, fun w => ?_⟩
    have := parts_no s.data.toList w hl ho
    rw [str_of] at this
    exact this.mono fun e w' ⟨h1, h2⟩ => ⟨none, 0, h1, .inl rfl, h2⟩
/-- what stands while all is tried -/
structure Cb (w wx : World) (g : Nat) (C : Array Value) : Prop where
  h : Has wx g 24 C
  bel : Below w.heap.size w wx
  lt : g < wx.heap.size
theorem Cb.up {w wx wy : World} {g : Nat} {C : Array Value} (h : Cb w wx g C) (k : Below wx.heap.size wx wy) : Cb w wy g C :=
  ⟨h.h.up k, up2 h.bel k, Nat.lt_of_lt_of_le h.lt k.size⟩
theorem Cb.fresh (w : World) (C : Array Value) : Cb w (w.alloc (.cells C 24)) w.heap.size C := ⟨Has.fresh w _ _, boxed _ _, by simp⟩
set_option maxRecDepth 100000 in
set_option maxHeartbeats 8000000 in
theorem back_any (n k : Int) (a : Option Addr) (ca : Nat) (xs : List Int) (b : Option Addr) (cb : Nat) (ts : List ByteArray) (s : ByteArray) (w : World) (hn : Am n) (hA : NumA w a xs) (hx : ∀ x ∈ xs, Am x) (hB : StrA w b ts) (hlen : ts.length ≤ 140737488355328) (hsz : ∀ x ∈ ts, x.size ≤ 140737488355328) :
    Calls Try.prog 5 #[.int .i64 n, .agg #[.int .i64 k, .slice a xs.length ca], .slice b ts.length cb, .string s] w fun e w' => e = .returned (.bool true) ∧ Below w.heap.size w w' := by
  obtain ⟨C, hC⟩ : ∃ C, C = (#[.int .i64 k, .slice a xs.length ca] : Array Value) := ⟨_, rfl⟩
  have HAW := Lib.hid awake_any
  have HN := Lib.hid (fun W => number_any n W hn)
  have hXs : (str (enc (fold n))).size = nl n := str_size _
  have hX10 := nl_ten hn
  have HT := Lib.hid (fun W => take_yes (enc (fold n) ++ s.data.toList) n W ⟨hn, s.data.toList, rfl⟩)
  rw [← sapp, str_of] at HT
  obtain ⟨u, hu⟩ : ∃ u, u = nl n := ⟨_, rfl⟩
  obtain ⟨X, hXX⟩ : ∃ X, X = str (enc (fold n)) := ⟨_, rfl⟩
  rw [← hu, ← hXX] at HT
  rw [← hu, ← hXX] at hXs
  rw [← hu] at hX10
  rw [← hXX] at HN
  clear hu hXX
  have HLG := Lib.hid (fun W h => large_any b cb ts W h hlen hsz)
  have HAX := Lib.hid hA
  have HBX := Lib.hid hB
  have HX := Lib.hid hx
  obtain ⟨R, E, hRE, hP⟩ := put_ex k a ca xs hx
  have HR := Lib.hid hRE
  have HP := Lib.hid hP
  clear hRE hP
  obtain ⟨N, hN⟩ : ∃ N, N = xs.length := ⟨_, rfl⟩
  obtain ⟨M, hM⟩ : ∃ M, M = ts.length := ⟨_, rfl⟩
  have HNM := Lib.hid (And.intro hN hM)
  rw [← hM] at HLG
  rw [← hN] at HP
  rw [← hN] at hC
  rw [← hN, ← hM]
  clear hn hA hx hB hlen hsz hN hM
  go_enter Try.func5, Try.ntmps5
  go_wp2_with fail
  have K1 := Lib.hid (Cb.fresh w C)
  rw [hC] at K1
  obtain ⟨g, hg⟩ : ∃ g, g = w.heap.size := ⟨_, rfl⟩
  obtain ⟨w1, hw1⟩ : ∃ w1, w1 = w.alloc (.cells #[.int .i64 k, .slice a N ca] 24) := ⟨_, rfl⟩
  rw [← hw1, ← hg] at K1
  rw [← hw1, ← hg]
  clear hw1 hg
  refine (HAW.out _).mono ?_
  rintro e w2 ⟨rfl, hb2⟩
  have K2 := Lib.hid (K1.out.up hb2)
  have c0 : w2.cell? ⟨g, 0, none⟩ = some (.int .i64 k) := K2.out.h.cell 0
  have c1 : w2.cell? ⟨g, 1, none⟩ = some (.slice a N ca) := K2.out.h.cell 1
  clear hb2 K1
  by_cases hq1 : 70 < N
  · have hq2 : (70 : Int) < (N : Int) := by omega
    go_wp2
    go_ret
    exact ⟨rfl, K2.out.bel⟩
  have hq2 : ¬ ((70 : Int) < (N : Int)) := by omega
  go_wp2_with fail
  refine (HLG.out _ (HBX.out.up K2.out.bel)).mono ?_
  rintro e w' ⟨lg, rfl, hlg, rfl⟩
  cases lg with
  | true =>
    go_wp2
    go_ret
    exact ⟨rfl, K2.out.bel⟩
  | false =>
  have hlg2 := hlg rfl
  have HLg := Lib.hid hlg2
  by_cases hq3 : 3000 < s.size
  · have hq4 : (3000 : Int) < (s.size : Int) := by omega
    go_wp2
    go_ret
    exact ⟨rfl, K2.out.bel⟩
  have hq4 : ¬ ((3000 : Int) < (s.size : Int)) := by omega
  clear hlg hlg2
  go_wp2_with fail
  refine (HN.out _).mono ?_
  rintro e w3 ⟨rfl, hb3⟩
  have K3 := Lib.hid (K2.out.up hb3)
  clear hb3 K2 c0 c1 HLG HAW
  have q5 : ¬ (9223372036854775807 < X.size + s.size) := by omega
  go_wp2_with fail
  refine (HT.out _).mono ?_
  rintro e w' ⟨rfl, rfl⟩
  have hXi : (u : Int) = (X.size : Int) := by omega
  have c0 : w3.cell? ⟨g, 0, none⟩ = some (.int .i64 k) := K3.out.h.cell 0
  have c1 : w3.cell? ⟨g, 1, none⟩ = some (.slice a N ca) := K3.out.h.cell 1
  go_wp2_with fail
  refine (HP.out _ (HAX.out.up K3.out.bel)).mono ?_
  rintro e w4 ⟨rfl, hb4⟩
  have K4 := Lib.hid (K3.out.up hb4)
  clear hb4 K3 HT c0 c1 HN hXs hX10 q5 hXi HP
  go_upto_if 75 with fail
  go_cut [13, 14] (fun _ _ wx => Hid (Cb w wx g #[.int .i64 k, .slice a N ca]))
  case first =>
    rcases HR.out with ⟨rfl, hR, hok⟩ | ⟨rfl, hR, hok⟩
    · have RY := Lib.hid (fun W => read_put k xs W HX.out hok)
      have RZ := Lib.hid (fun W => read_put0 k xs W HX.out hok)
      rw [← hR] at RZ RY
      rw [← HNM.out.1] at RY
      have hR6 : R.size ≤ 1000 := by rw [hR, str_size]; exact putL_len HX.out hok.2.2
      have HLN : Hid (∀ W a' c', NumA W a' xs → NumA W a xs → Calls Try.prog 16 #[.slice a' N c', .slice a N ca] W fun e w' => e = .returned (.bool true) ∧ ∃ n, w' = W.drewN n) := fun W a' c' h1 h2 => by
        have := longs_any a' a c' ca xs xs W h1 h2 (by have := hok.2.2; omega)
        rw [decide_eq_true rfl, ← HNM.out.1] at this
        exact this
      clear hR hok
      go_wp2_with fail
      refine (RY.out _).mono ?_
      rintro e w5 ⟨a5, c5, rfl, hn5, hb5⟩
      have K5 := Lib.hid (K4.out.up hb5)
      have N5 := Lib.hid hn5
      have z5 : g < w5.heap.size := K5.out.lt
      have c0 : w5.cell? ⟨g, 0, none⟩ = some (.int .i64 k) := K5.out.h.cell 0
      have c1 : w5.cell? ⟨g, 1, none⟩ = some (.slice a N ca) := K5.out.h.cell 1
      clear hb5 hn5 K4
      go_wp2_with fail
      have bx := boxed w5 (.cells #[.int .i64 k, .slice a5 N c5] 24)
      refine (HLN.out _ _ _ (N5.out.up bx) ((HAX.out.up K5.out.bel).up bx)).mono ?_
      rintro e w6 ⟨rfl, n6, hw6⟩
      have hb6 : Below w5.heap.size w5 w6 := by rw [hw6]; exact blw bx n6
      have K6 := Lib.hid (K5.out.up hb6)
      clear hb6 hw6 bx c0 c1 z5 K5 N5
      go_wp2_with fail
      have q6 : ¬ (9223372036854775807 < R.size + 1) := by omega
      refine (RZ.out _).mono ?_
      rintro e w7 ⟨rfl, hb7⟩
      have K7 := Lib.hid (K6.out.up hb7)
      clear hb7 K6
      go_wp2_with fail
      go_meet
      exact (K7.out.up (boxed _ _))
    · go_wp2_with fail
      go_meet
      exact K4
  case rest =>
    have L1 := Lib.hid hcut.out
    clear hcut K4 HR HX HAX
    obtain ⟨K, ys, E2, hE2, hC2⟩ := read_two s (by omega)
    have HE2 := Lib.hid hE2
    have HC2 := Lib.hid hC2
    clear hE2 hC2
    go_wp2_with fail
    refine (HC2.out _).mono ?_
    rintro e w5 ⟨a5, c5, rfl, hn5, hb5⟩
    have L2 := Lib.hid (L1.out.up hb5)
    have N5 := Lib.hid hn5
    clear hn5 hb5 L1 HC2
    go_upto_if 112 with fail
    go_cut [19, 20] (fun _ _ wx => Hid (Below w.heap.size w wx))
    case first =>
      rcases HE2.out with ⟨rfl, hok, hm, hs⟩ | ⟨rfl, rfl, rfl⟩
      · have HPT := Lib.hid (fun W h => put_ok K a5 c5 ys W h hm hok)
        rw [← hs] at HPT
        clear hok hm hs
        go_wp2_with fail
        have bx := boxed w5 (.cells #[.int .i64 K, .slice a5 ys.length c5] 24)
        refine (HPT.out _ (N5.out.up bx)).mono ?_
        rintro e w6 ⟨rfl, hb6⟩
        have L3 := Lib.hid (up2 L2.out.bel (up2 bx hb6))
        clear hb6 bx
        go_wp2_with fail
        go_meet
        exact L3
      · go_wp2_with fail
        go_meet
        exact up2 L2.out.bel (boxed _ _)
    case rest =>
      have L3 := Lib.hid hcut.out
      clear hcut N5 L2 HE2
      obtain ⟨R4, E4, hE4, hC4⟩ := list_two b cb ts
      rw [← HNM.out.2] at hC4
      have HE4 := Lib.hid hE4
      have HC4 := Lib.hid hC4
      clear hE4 hC4
      go_wp2_with fail
      refine (HC4.out _ (HBX.out.up L3.out)).mono ?_
      rintro e w7 ⟨rfl, hb7⟩
      have L4 := Lib.hid (up2 L3.out hb7)
      clear hb7 L3 HC4
      go_upto_if 131 with fail
      go_cut [23, 24] (fun _ _ wx => Hid (Below w.heap.size w wx))
      case first =>
        rcases HE4.out with ⟨rfl, hR, hok⟩ | ⟨rfl, hR, hok⟩
        · have HPT := Lib.hid (fun W => parts_yes (lstL (ls ts)) ts W (by have := lstL_len (ts := ls ts) (by rw [ls_len]; exact HLg.out); omega) ⟨hok, rfl⟩)
          rw [← hR, ← HNM.out.2] at HPT
          have HSM : Hid (∀ W a' c', StrA W a' ts → StrA W b ts → Calls Try.prog 22 #[.slice a' M c', .slice b M cb] W fun e w' => e = .returned (.bool true) ∧ ∃ n, w' = W.drewN n) := fun W a' c' h1 h2 => by
            have := sameA_any a' b c' cb ts ts W h1 h2 (by have := HLg.out; omega)
            rw [decide_eq_true rfl, ← HNM.out.2] at this
            exact this
          clear hR hok
          go_wp2_with fail
          refine (HPT.out _).mono ?_
          rintro e w8 ⟨a8, c8, rfl, hn8, hb8⟩
          have L5 := Lib.hid (up2 L4.out hb8)
          have N8 := Lib.hid hn8
          clear hn8 hb8
          go_wp2_with fail
          refine (HSM.out _ _ _ N8.out (HBX.out.up L5.out)).mono ?_
          rintro e w9 ⟨rfl, n9, hw9⟩
          have L6 : Hid (Below w.heap.size w w9) := by rw [hw9]; exact blw L5.out n9
          clear hw9
          go_wp2_with fail
          go_meet
          exact L6
        · go_wp2_with fail
          go_meet
          exact L4
      case rest =>
        have L5 := Lib.hid hcut.out
        clear hcut L4 HE4 HNM HBX HLg
        obtain ⟨zs, E6, hE6, hC6⟩ := parts_two s (by omega)
        have HE6 := Lib.hid hE6
        have HC6 := Lib.hid hC6
        clear hE6 hC6
        go_wp2_with fail
        refine (HC6.out _).mono ?_
        rintro e w10 ⟨a10, c10, rfl, hn10, hb10⟩
        have L6 := Lib.hid (up2 L5.out hb10)
        have N10 := Lib.hid hn10
        clear hn10 hb10 L5 HC6
        rcases HE6.out with ⟨rfl, hok, hs⟩ | ⟨rfl, rfl⟩
        · have HPT := Lib.hid (fun W h => list_ok a10 c10 zs W h hok)
          rw [← hs] at HPT
          clear hok hs
          go_wp2_with fail
          refine (HPT.out _ N10.out).mono ?_
          rintro e w11 ⟨rfl, hb11⟩
          have L7 := Lib.hid (up2 L6.out hb11)
          clear hb11
          go_wp2
          go_ret
          exact ⟨rfl, L7.out⟩
        · go_wp2
          go_ret
          exact ⟨rfl, L6.out⟩
end Go.Proofs.Ytmfgdpbnnlmjhaa
