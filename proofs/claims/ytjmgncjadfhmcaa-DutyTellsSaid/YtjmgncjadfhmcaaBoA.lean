/- has, mayBe, Clone, the search behind a day. -/
import Derived.WalkKit
import Derived.Test.YtjmgncjadfhmcaaBoMem
namespace Go.Proofs.Ytjmgncjadfhmcaa
open Go.RowKit

set_option maxHeartbeats 400000 in
theorem has_cells {w : World} {p n : Nat} {qa : Option Addr} {qc : Nat} (i : Int) (h0 : w.cell? ⟨p, 0, none⟩ = some (.slice qa n qc)) :
    Calls Try.prog 45 #[.pointer (some ⟨p, 0, none⟩), .int .i64 i] w fun e w' => e = .returned (.bool (decide (0 ≤ i) && decide (i < (n : Int)))) ∧ w = w' := by
  by_cases h1 : 0 ≤ i
  · rw [decide_eq_true h1, Bool.true_and]
    go_enter Try.func45, Try.ntmps45
    go_wp2
    go_ret
    exact ⟨rfl, rfl⟩
  · rw [decide_eq_false h1, Bool.false_and]
    go_enter Try.func45, Try.ntmps45
    go_wp2
    go_ret
    exact ⟨rfl, rfl⟩
theorem bhas_any {w : World} {p r : Nat} {S : Bs} (i : Int) (h : Bk w p r S) : Calls Try.prog 45 #[.pointer (some ⟨p, 0, none⟩), .int .i64 i] w fun e w' => e = .returned (.bool (hasB S i)) ∧ w = w' := by
  obtain ⟨_, _, _, h⟩ := h
  exact has_cells i h.c0

set_option maxRecDepth 100000 in
set_option maxHeartbeats 4000000 in
theorem mayBe_any (x : Im) (w : World) : Calls Try.prog 17 #[x.val] w fun e w' => e = .returned (.bool (imB x)) ∧ Below w.heap.size w w' := by
  obtain ⟨t, g, m, q⟩ := x
  unfold Im.val
  show Calls Try.prog 17 #[.agg #[.int .i64 t, .int .i64 g, .int .i64 m, .int .i64 q]] w _
  by_cases h1 : 0 ≤ t
  · by_cases h2 : t ≤ 2
    · by_cases h3 : 0 ≤ g
      · by_cases h4 : g ≤ 99
        · by_cases h5 : 0 ≤ m
          · by_cases h6 : m ≤ 3
            · by_cases h7 : 1 ≤ q
              · rw [show imB ⟨t, g, m, q⟩ = true by simp [imB, h1, h2, h3, h4, h5, h6, h7]]
                go_enter Try.func17, Try.ntmps17
                go_wp2
                go_ret
                exact ⟨rfl, boxed _ _⟩
              · rw [show imB ⟨t, g, m, q⟩ = false by simp [imB, h1, h2, h3, h4, h5, h6, h7]]
                go_enter Try.func17, Try.ntmps17
                go_wp2
                go_ret
                exact ⟨rfl, boxed _ _⟩
            · rw [show imB ⟨t, g, m, q⟩ = false by simp [imB, h1, h2, h3, h4, h5, h6]]
              go_enter Try.func17, Try.ntmps17
              go_wp2
              go_ret
              exact ⟨rfl, boxed _ _⟩
          · rw [show imB ⟨t, g, m, q⟩ = false by simp [imB, h1, h2, h3, h4, h5]]
            go_enter Try.func17, Try.ntmps17
            go_wp2
            go_ret
            exact ⟨rfl, boxed _ _⟩
        · rw [show imB ⟨t, g, m, q⟩ = false by simp [imB, h1, h2, h3, h4]]
          go_enter Try.func17, Try.ntmps17
          go_wp2
          go_ret
          exact ⟨rfl, boxed _ _⟩
      · rw [show imB ⟨t, g, m, q⟩ = false by simp [imB, h1, h2, h3]]
        go_enter Try.func17, Try.ntmps17
        go_wp2
        go_ret
        exact ⟨rfl, boxed _ _⟩
    · rw [show imB ⟨t, g, m, q⟩ = false by simp [imB, h1, h2]]
      go_enter Try.func17, Try.ntmps17
      go_wp2
      go_ret
      exact ⟨rfl, boxed _ _⟩
  · rw [show imB ⟨t, g, m, q⟩ = false by simp [imB, h1]]
    go_enter Try.func17, Try.ntmps17
    go_wp2
    go_ret
    exact ⟨rfl, boxed _ _⟩

set_option maxHeartbeats 400000 in
theorem bclo_any (d : Int) (R : List (Int × Int)) (b o cap h : Nat) (e : Int × Int) (p q : Addr) (W : World) (hp : W.cell? p = some (.slice (some ⟨b, o, none⟩) R.length cap)) (hq : W.cell? q = some (.int .i64 d)) (hh : h < R.length) (he : W.cell? ⟨b, o + h * 2, none⟩ = some (.int .i64 e.1)) :
    Calls Try.prog 52 #[.int .i64 (h : Int), .pointer (some p), .pointer (some q)] W fun e' w' => e' = .returned (.bool (decide (d < e.1))) ∧ ∃ n, w' = W.drewN n := by
  go_enter Try.func52, Try.ntmps52
  go_wp2_with fail
  go_quiet (fail)
  go_wp2_with fail
  go_ret
  exact ⟨rfl, nq, rfl⟩

/-- what the search finds -/
def FoundP (w : World) (R : List (Int × Int)) (d : Int) (e : Ending) (w' : World) : Prop := ∃ k : Nat, Pl R d k ∧ e = .returned (.int .i64 (k : Int)) ∧ ∃ q, w' = w.drewN q
set_option maxRecDepth 100000 in
set_option maxHeartbeats 1000000 in
theorem bsearch_any (d : Int) (R : List (Int × Int)) (b o cap : Nat) (p q : Addr) (w : World) (hp : w.cell? p = some (.slice (some ⟨b, o, none⟩) R.length cap)) (hq : w.cell? q = some (.int .i64 d)) (hl : R.length ≤ 1000) (hR : PrA w (some ⟨b, o, none⟩) R) (hA : R.Pairwise fun a b => a.1 < b.1) :
    Calls Try.prog 51 #[.int .i64 (R.length : Int), .func (.func 52) #[] #[.pointer (some p), .pointer (some q)]] w (FoundP w R d) := by
  have HP := Lib.hid hp
  have HQ := Lib.hid hq
  have HR := Lib.hid hR
  have HA := Lib.hid hA
  obtain ⟨n, hn⟩ : ∃ n, n = R.length := ⟨_, rfl⟩
  have HN := Lib.hid hn
  rw [← hn] at hl ⊢
  clear hp hq hR hA hn
  go_enter Try.func51, Try.ntmps51
  go_wp2_with fail
  go_loopw [5, 6] (fun a b wr => ∃ i j : Nat, i ≤ j ∧ j ≤ n ∧ a = .int .i64 (i : Int) ∧ b = .int .i64 (j : Int) ∧ (∀ t e, t < i → R[t]? = some e → e.1 ≤ d) ∧ (∀ t e, j ≤ t → R[t]? = some e → d < e.1) ∧ ∃ q, wr = w.drewN q) (fun a b _ => (intOf b - intOf a).toNat)
  case atStart => exact ⟨0, n, by omega, by omega, rfl, rfl, fun t e h _ => by omega, fun t e h he => by have := (List.getElem?_eq_some_iff.1 he).1; rw [← HN.out] at this; omega, 0, rfl⟩
  case round =>
    obtain ⟨i, j, a1, a2, rfl, rfl, a3, a4, t, rfl⟩ := hrel
    have H3 := Lib.hid a3
    have H4 := Lib.hid a4
    clear a3 a4
    by_cases hlt : i < j
    · obtain ⟨W, hW⟩ : ∃ W, W = w.drewN t := ⟨_, rfl⟩
      have hp1 : W.cell? p = some (.slice (some ⟨b, o, none⟩) R.length cap) := by rw [hW]; exact HP.out
      have hq1 : W.cell? q = some (.int .i64 d) := by rw [hW]; exact HQ.out
      have hR1 : PrA W (some ⟨b, o, none⟩) R := by rw [hW]; exact HR.out.drewN t
      have HP1 := Lib.hid hp1
      have HQ1 := Lib.hid hq1
      have HR1 := Lib.hid hR1
      rw [← hW]
      have HW := Lib.hid hW
      clear hW hp1 hq1 hR1
      have g0 : ((i : Int) + (j : Int)) / 2 = (((i + j) / 2 : Nat) : Int) := by omega
      have G0 := Lib.hid g0
      clear g0
      go_wp2_with fail
      rw [G0.out]
      have g1 : i ≤ (i + j) / 2 := by omega
      have g2 : (i + j) / 2 < j := by omega
      obtain ⟨h, hh⟩ : ∃ h, h = (i + j) / 2 := ⟨_, rfl⟩
      rw [← hh] at g1 g2 ⊢
      clear hh G0
      have hRn : h < R.length := by rw [← HN.out]; omega
      obtain ⟨e, he⟩ : ∃ e, R[h]? = some e := ⟨R[h], List.getElem?_eq_getElem _⟩
      have hcell : W.cell? ⟨b, o + h * 2, none⟩ = some (.int .i64 e.1) := by
        rcases HR1.out with z | ⟨b', o', z, hz⟩
        · rw [z] at he; simp at he
        · injection z with z
          injection z with z1 z2
          subst z1; subst z2
          exact hz h e he 0 _ rfl
      refine (bclo_any d R b o cap h e p q W HP1.out HQ1.out hRn hcell).mono ?_
      rintro e' w1 ⟨rfl, q1, rfl⟩
      obtain ⟨q2, hq2⟩ : ∃ q2, W.drewN q1 = w.drewN q2 := ⟨_, by rw [HW.out, drewN_two]⟩
      rw [hq2]
      have HE := Lib.hid he
      clear hq2 HW HP1 HQ1 HR1 hcell he
      by_cases hn : d < e.1
      · have hb : decide (d < e.1) = true := decide_eq_true hn
        rw [hb]
        clear hb
        go_wp2_with fail
        go_roundw
        case rel =>
          refine ⟨i, h, by omega, by omega, rfl, rfl, H3.out, fun t y ht hy => ?_, q2, rfl⟩
          by_cases z : h = t
          · subst z; rw [HE.out] at hy; obtain rfl := Option.some.inj hy; exact hn
          · have := asc_get HA.out HE.out hy (by omega); omega
        case measure => simp [intOf]; omega
      · have hb : decide (d < e.1) = false := decide_eq_false hn
        rw [hb]
        clear hb
        go_wp2_with fail
        go_roundw
        case rel =>
          refine ⟨h + 1, j, by omega, by omega, by go_num, rfl, fun t y ht hy => ?_, H4.out, q2, rfl⟩
          by_cases z : t = h
          · subst z; rw [HE.out] at hy; obtain rfl := Option.some.inj hy; omega
          · have := asc_get HA.out hy HE.out (by omega); omega
        case measure => simp [intOf]; omega
    · obtain rfl : i = j := by omega
      have hz : ¬ i < i := by omega
      go_wp2_with fail
      go_ret
      exact ⟨i, ⟨by rw [← HN.out]; exact a2, H3.out, H4.out⟩, rfl, t, rfl⟩

/-- what behind finds -/
def BehR (w : World) (R : List (Int × Int)) (d : Int) (e : Ending) (w' : World) : Prop := ∃ k : Nat, Pl R d k ∧ e = .returned (.int .i64 (k : Int)) ∧ Below w.heap.size w w'
set_option maxRecDepth 100000 in
set_option maxHeartbeats 1000000 in
theorem behind_any (d : Int) (R : List (Int × Int)) (a : Option Addr) (cap : Nat) (w : World) (h1 : 1 ≤ R.length) (hl : R.length ≤ 1000) (hR : PrA w a R) (hA : R.Pairwise fun a b => a.1 < b.1) :
    Calls Try.prog 46 #[.slice a R.length cap, .int .i64 d] w (BehR w R d) := by
  obtain ⟨b, o, rfl⟩ : ∃ b o, a = some ⟨b, o, none⟩ := by
    rcases hR with z | ⟨b, o, z, _⟩
    · rw [z] at h1; simp at h1
    · exact ⟨b, o, z⟩
  have HR := Lib.hid hR
  have HA := Lib.hid hA
  obtain ⟨n, hn⟩ : ∃ n, n = R.length := ⟨_, rfl⟩
  have HN := Lib.hid hn
  rw [← hn] at hl h1 ⊢
  have HS : Hid (∀ (p q : Addr) (W : World), Below w.heap.size w W → W.cell? p = some (.slice (some ⟨b, o, none⟩) n cap) → W.cell? q = some (.int .i64 d) → Calls Try.prog 51 #[.int .i64 (n : Int), .func (.func 52) #[] #[.pointer (some p), .pointer (some q)]] W (FoundP W R d)) := fun p q W hb h0 h1 => by
    rw [hn] at h0 ⊢
    exact bsearch_any d R b o cap p q W h0 h1 (by rw [← hn]; exact hl) (hR.up hb) hA
  clear hR hA hn
  have hbox : Below w.heap.size w ((w.alloc (.cells #[.slice (some ⟨b, o, none⟩) n cap] 55)).alloc (.cells #[.int .i64 d] 3)) := (boxed _ _).alloc (by simp) _
  have HB := Lib.hid hbox
  clear hbox
  go_enter Try.func46, Try.ntmps46
  go_wp2_with fail
  refine (HS.out _ _ _ HB.out (by simp [go_sem]) (by simp [go_sem])).mono ?_
  rintro e w1 ⟨k, hk, rfl, t, rfl⟩
  have HK := Lib.hid hk
  clear hk
  go_wp2_with fail
  go_ret
  exact ⟨k, HK.out, rfl, blw HB.out t⟩
end Go.Proofs.Ytjmgncjadfhmcaa
