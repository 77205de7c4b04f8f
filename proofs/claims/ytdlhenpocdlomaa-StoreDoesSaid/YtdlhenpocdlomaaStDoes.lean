/- The core of StoreDoes. -/
import Derived.Test.YtdlhenpocdlomaaStF
namespace Go.Proofs.Ytdlhenpocdlomaa
open Go.RowKit

/-- an operation lies at place o of block b -/
def Lay (b o : Nat) (x : OpD) (w : World) : Prop :=
  w.cell? ⟨b, o, none⟩ = some (.int .i64 x.d) ∧ w.cell? ⟨b, o + 1, none⟩ = some (.int .i64 x.a) ∧ w.cell? ⟨b, o + 2, none⟩ = some (.int .i64 x.n) ∧ w.cell? ⟨b, o + 3, none⟩ = some (.int .i64 x.t) ∧ w.cell? ⟨b, o + 4, none⟩ = some (.string x.x) ∧ w.cell? ⟨b, o + 5, none⟩ = some (.bool x.f)
theorem Lay.up {w w' : World} {b o : Nat} {x : OpD} (h : Lay b o x w) (k : Below w.heap.size w w') : Lay b o x w' :=
  ⟨kcell k h.1, kcell k h.2.1, kcell k h.2.2.1, kcell k h.2.2.2.1, kcell k h.2.2.2.2.1, kcell k h.2.2.2.2.2⟩
/-- a list of operations -/
def Ops (w : World) (a : Option Addr) (n : Nat) (L : Nat → OpD) : Prop :=
  ∀ i, i < n → ∃ b off, a = some ⟨b, off, none⟩ ∧ Lay b (off + i * 6) (L i) w ∧ (L i).n ≤ 9223372036854775807

set_option maxRecDepth 100000 in
set_option maxHeartbeats 2000000 in
theorem dz_none (n : Int) (a : Option Addr) (len cap : Nat) (w : World) (h : (40 < n ∧ n ≤ 4096) ∨ 40 < len) (hl : len ≤ 9223372036854775807) :
    Calls Try.prog 3 #[.int .i64 n, .slice a len cap] w fun e w' => e = .returned (.bool true) ∧ Below w.heap.size w w' := by
  by_cases h1 : 40 < n ∧ n ≤ 4096
  · obtain ⟨h2, h3⟩ := h1
    clear h
    go_enter Try.func3, Try.ntmps3
    go_wp2_with fail
    refine (st_awake _).mono ?_
    rintro e w1 ⟨rfl, hb⟩
    have HB := Lib.hid hb
    clear hb
    go_wp2_with fail
    go_ret
    exact ⟨rfl, HB.out⟩
  · have h2 : 40 < (len : Int) := by rcases h with h | h <;> omega
    clear h
    by_cases h3 : 40 < n
    · have h4 : decide (n ≤ 4096) = false := by simp; omega
      clear h1
      go_enter Try.func3, Try.ntmps3
      go_wp2_with fail
      refine (st_awake _).mono ?_
      rintro e w1 ⟨rfl, hb⟩
      have HB := Lib.hid hb
      clear hb
      go_wp2_with fail
      go_ret
      exact ⟨rfl, HB.out⟩
    · have h4 : n ≤ 40 := by omega
      clear h1 h3
      go_enter Try.func3, Try.ntmps3
      go_wp2_with fail
      refine (st_awake _).mono ?_
      rintro e w1 ⟨rfl, hb⟩
      have HB := Lib.hid hb
      clear hb
      go_wp2_with fail
      go_ret
      exact ⟨rfl, HB.out⟩

set_option maxRecDepth 100000 in
set_option maxHeartbeats 2000000 in
theorem dz_no (n : Int) (a : Option Addr) (len cap : Nat) (w : World) (h : n < 3 ∨ 4096 < n) (hl : len ≤ 40) :
    Calls Try.prog 3 #[.int .i64 n, .slice a len cap] w fun e w' => e = .returned (.bool true) ∧ Below w.heap.size w w' := by
  have hl' : (len : Int) ≤ 40 := by omega
  have hor : (decide (40 < n) && decide (n ≤ 4096)) = false := by
    rcases h with h | h <;> simp <;> omega
  have H := Lib.hid h
  rcases h with h | h
  · have g : n ≤ 40 := by omega
    go_enter Try.func3, Try.ntmps3
    go_wp2_with fail
    refine (st_awake _).mono ?_
    rintro e w1 ⟨rfl, hb⟩
    have HB := Lib.hid hb
    clear hb
    go_wp2_with fail
    refine (new_no w1 n H.out).mono ?_
    rintro e w' ⟨rfl, rfl⟩
    go_wp2_with fail
    refine (rnew_no w1 n H.out).mono ?_
    rintro e w' ⟨rfl, rfl⟩
    go_wp2_with fail
    go_loop [9] (fun i => i = .int .i64 0) (fun i => 0)
    case atStart => exact rfl
    case round =>
      obtain rfl := hrel
      go_wp2_with fail
      go_ret
      exact ⟨rfl, HB.out⟩
  · have g : 40 < n := by omega
    have g2 : decide (n ≤ 4096) = false := by simp; omega
    go_enter Try.func3, Try.ntmps3
    go_wp2_with fail
    refine (st_awake _).mono ?_
    rintro e w1 ⟨rfl, hb⟩
    have HB := Lib.hid hb
    clear hb
    go_wp2_with fail
    refine (new_no w1 n H.out).mono ?_
    rintro e w' ⟨rfl, rfl⟩
    go_wp2_with fail
    refine (rnew_no w1 n H.out).mono ?_
    rintro e w' ⟨rfl, rfl⟩
    go_wp2_with fail
    go_loop [9] (fun i => i = .int .i64 0) (fun i => 0)
    case atStart => exact rfl
    case round =>
      obtain rfl := hrel
      go_wp2_with fail
      go_ret
      exact ⟨rfl, HB.out⟩

set_option maxRecDepth 100000 in
set_option maxHeartbeats 4000000 in
theorem dz_yes (n : Int) (a : Option Addr) (len cap : Nat) (L : Nat → OpD) (w : World) (h0 : 3 ≤ n) (h1 : n ≤ 40) (hl : len ≤ 40) (hL : Ops w a len L) :
    Calls Try.prog 3 #[.int .i64 n, .slice a len cap] w fun e w' => e = .returned (.bool true) ∧ Below w.heap.size w w' := by
  have hl' : (len : Int) ≤ 40 := by omega
  have hL' := Lib.hid hL
  clear hL
  go_enter Try.func3, Try.ntmps3
  go_wp2_with fail
  refine (st_awake _).mono ?_
  rintro e w1 ⟨rfl, hb⟩
  have HB := Lib.hid hb
  clear hb
  go_wp2_with fail
  refine (new_at w1 n h0 (by omega)).mono ?_
  rintro e w2 ⟨p, b, rfl, ha, lp, lb, hb⟩
  have HA2 := Lib.hid ha
  have LP := Lib.hid (show w.heap.size ≤ p from Nat.le_trans HB.out.size lp)
  have LB := Lib.hid (show w.heap.size ≤ b from Nat.le_trans HB.out.size lb)
  have HB2 := Lib.hid (up2 HB.out hb)
  clear ha lp lb hb HB
  go_wp2_with fail
  refine (rnew_at w2 n h0 (by omega)).mono ?_
  rintro e w3 ⟨q, r, rfl, ha, lp, lb, hb⟩
  have HR := Lib.hid ha
  have HA := Lib.hid (HA2.out.up hb)
  have LQ := Lib.hid (show w.heap.size ≤ q from Nat.le_trans HB2.out.size lp)
  have LR := Lib.hid (show w.heap.size ≤ r from Nat.le_trans HB2.out.size lb)
  have HB3 := Lib.hid (up2 HB2.out hb)
  clear ha lp lb hb HB2 HA2
  go_wp2_with fail
  go_loopw [9] (fun i wr => ∃ k : Nat, k ≤ len ∧ i = .int .i64 (k : Int) ∧ ∃ s, At wr p b s (k : Int) ∧ Rt wr q r s ∧ Below w.heap.size w wr) (fun i _ => len - (intOf i).toNat)
  case atStart => exact ⟨0, by omega, rfl, _, HA.out, HR.out, HB3.out⟩
  case round =>
    obtain ⟨k, hk, rfl, s, ha, hr, hb⟩ := hrel
    have KA := Lib.hid ha
    have KR := Lib.hid hr
    have KB := Lib.hid hb
    clear ha hr hb
    by_cases hlt : k < len
    · obtain ⟨bb, off, rfl, hlay, hn⟩ := hL'.out k hlt
      obtain ⟨x, hx⟩ : ∃ x, x = L k := ⟨_, rfl⟩
      rw [← hx] at hlay hn
      have hlay' := hlay.up KB.out
      have HN := Lib.hid hn
      clear hlay hx hn
      obtain ⟨e0, e1, e2, e3, e4, e5⟩ := hlay'
      have i1 : (k : Int) < (len : Int) := by omega
      by_cases hz : (100 : Int) < (x.x.size : Int)
      · go_wp2_with fail
        go_ret
        exact ⟨rfl, KB.out⟩
      · go_wp2_with fail
        have hd := do_any wr w.heap.size p b q r s (k : Int) x KA.out KR.out (by omega) HN.out LP.out LB.out LQ.out LR.out KB.out.size
        unfold OpD.cells opv at hd
        refine hd.mono ?_
        rintro e w4 ⟨rfl, hD⟩
        have HD := Lib.hid hD
        clear hd hD e0 e1 e2 e3 e4 e5
        go_wp2_with fail
        refine (same_any w4 p b q r _ _ HD.out.at_ HD.out.rt).mono ?_
        rintro e w5 ⟨rfl, hb⟩
        have HA5 := Lib.hid (HD.out.at_.up hb)
        have HR5 := Lib.hid (HD.out.rt.up hb)
        have HB5 := Lib.hid ((KB.out.trans HD.out.bel).trans (hb.mono HD.out.lx))
        clear hb
        go_wp2_with fail
        go_roundw
        case rel => exact ⟨k + 1, by omega, by go_num, stepS s x, ⟨HA5.out.st, HA5.out.fine.more (by omega)⟩, HR5.out, HB5.out⟩
        case measure => simp [intOf]; omega
    · obtain rfl : k = len := by omega
      go_wp2_with fail
      go_ret
      exact ⟨rfl, KB.out⟩

theorem does_any (n : Int) (a : Option Addr) (len cap : Nat) (L : Nat → OpD) (w : World) (hl : len ≤ 9223372036854775807) (hL : Ops w a len L) :
    Calls Try.prog 3 #[.int .i64 n, .slice a len cap] w fun e w' => e = .returned (.bool true) ∧ Below w.heap.size w w' := by
  by_cases h1 : (40 < n ∧ n ≤ 4096) ∨ 40 < len
  · exact dz_none n a len cap w h1 hl
  · by_cases h2 : n < 3 ∨ 4096 < n
    · exact dz_no n a len cap w h2 (by omega)
    · exact dz_yes n a len cap L w (by omega) (by omega) (by omega) hL
end Go.Proofs.Ytdlhenpocdlomaa
