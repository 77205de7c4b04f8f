/- bondOf, indexOf. -/
import Derived.Test.YtjmgncjadfhmcaaDuA
import Derived.Test.YtjmgncjadfhmcaaBoE
namespace Go.Proofs.Ytjmgncjadfhmcaa
open Go.RowKit

abbrev Kk := Int × Int
def keyC (q : Kk) : List Value := [.int .i64 q.1, .int .i64 q.2]
def keyV (q : Kk) : Value := .agg #[.int .i64 q.1, .int .i64 q.2]
theorem key_len (q : Kk) : (keyC q).length = 2 := rfl
abbrev KyA (w : World) (a : Option Addr) (l : List Kk) : Prop := Rws keyC 2 w a l
theorem ky_at {w : World} {a : Option Addr} {l : List Kk} (h : KyA w a l) {j : Nat} {q : Kk} (hx : l[j]? = some q) : ∃ b o, a = some ⟨b, o, none⟩ ∧ w.cell? ⟨b, o + j * 2, none⟩ = some (.int .i64 q.1) ∧ w.cell? ⟨b, o + j * 2 + 1, none⟩ = some (.int .i64 q.2) := by
  rcases h with h | ⟨b, o, e, h⟩
  · rw [h] at hx; simp at hx
  · exact ⟨b, o, e, h j q hx 0 _ rfl, h j q hx 1 _ rfl⟩
theorem itV_im {S : Bs} {x : Ln} (h : hasB S x.it = true) : itV S x.it = imAt S x := by
  unfold itV imAt
  rw [if_pos h]
/-- the bond of a line at a place -/
def bondK (m : Im) (it : Int) (k : Int) : Kk := if m.tag = 1 then (1, m.grp) else if m.tag = 2 then (2, it) else (0, k)
theorem bond_key (S : Bs) (l : List Ln) (k : Nat) : bondK (imAt S (lnAt l k)) (lnAt l k).it k = dKey S l k := rfl
section
variable {w : World} {p r : Nat} {S : Bs}
set_option maxRecDepth 100000 in
set_option maxHeartbeats 4000000 in
theorem bondOf_any (x : Ln) (k : Nat) (h : Bk w p r S) (hb : hasB S x.it = true) (ht : (imAt S x).tag = 0 ∨ (imAt S x).tag = 1 ∨ (imAt S x).tag = 2) : Calls Try.prog 38 #[.pointer (some ⟨p, 0, none⟩), x.val, .int .i64 (k : Int)] w fun e w' => e = .returned (keyV (bondK (imAt S x) x.it k)) ∧ Below w.heap.size w w' := by
  have HH := Lib.hid (fun (W : World) (hb : Below w.heap.size w W) => item_any x.it (h.up hb))
  have hI := itV_im hb
  obtain ⟨m, hm⟩ : ∃ m, m = imAt S x := ⟨_, rfl⟩
  rw [← hm] at hI ht ⊢
  unfold ItmR at HH
  rw [hI, hb] at HH
  clear h hb hm hI
  obtain ⟨it, un, ch, fi, la⟩ := x
  obtain ⟨tag, grp, met, pri⟩ := m
  show Calls Try.prog 38 #[.pointer (some ⟨p, 0, none⟩), .agg #[.int .i64 it, .int .i64 un, .int .i64 ch, .int .i64 fi, .int .i64 la], .int .i64 (k : Int)] w _
  simp only [Im.val] at HH ht
  rcases ht with rfl | rfl | rfl
  all_goals
    go_enter Try.func38, Try.ntmps38
    go_wp2_with fail
    refine (HH.out _ (up2 (boxed _ _) (boxed _ _))).mono ?_
    rintro e w1 ⟨rfl, hb1⟩
    have d0 := kcell hb1 (show ((w.alloc (.cells #[.int .i64 it, .int .i64 un, .int .i64 ch, .int .i64 fi, .int .i64 la] 45)).alloc (.cells #[.int .i64 0, .int .i64 0] 88)).cell? ⟨w.heap.size, 0, none⟩ = some (.int .i64 it) by simp [go_sem])
    have d1 := kcell hb1 (show ((w.alloc (.cells #[.int .i64 it, .int .i64 un, .int .i64 ch, .int .i64 fi, .int .i64 la] 45)).alloc (.cells #[.int .i64 0, .int .i64 0] 88)).cell? ⟨w.heap.size + 1, 0, none⟩ = some (.int .i64 0) by simp [go_sem])
    have d2 := kcell hb1 (show ((w.alloc (.cells #[.int .i64 it, .int .i64 un, .int .i64 ch, .int .i64 fi, .int .i64 la] 45)).alloc (.cells #[.int .i64 0, .int .i64 0] 88)).cell? ⟨w.heap.size + 1, 1, none⟩ = some (.int .i64 0) by simp [go_sem])
    have d3 : w1.frozen? ⟨w.heap.size + 1, 0, none⟩ = false := (hb1.frozen (by simp)).trans (by simp [go_sem])
    have d4 : w1.frozen? ⟨w.heap.size + 1, 1, none⟩ = false := (hb1.frozen (by simp)).trans (by simp [go_sem])
    have hz := World.block_lt_of_cell? _ _ d1
    have hz0 := World.block_lt_of_cell? _ _ d0
    have HB := Lib.hid hb1
    clear hb1
    go_wp2_with fail
    have hb2 : Below w.heap.size w w1 := up2 (up2 (boxed _ _) (boxed _ _)) HB.out
    have hz2 : w.heap.size + 1 < w1.heap.size := hz
    refine bodyPost_ret (by simp [results, Try.results38, go_sem, hz2, d1, d2]; rfl) rfl ⟨by simp [bondK]; rfl, ?_⟩
    exact ((hb2.setCell (p := ⟨w.heap.size + 1, 0, none⟩) (by simp) _).setCell (p := ⟨w.heap.size + 1, 1, none⟩) (by simp) _).alloc (by simpa using hb2.size) _
end
set_option maxRecDepth 100000 in
set_option maxHeartbeats 4000000 in
theorem indexOf_any (a : Option Addr) (n cap : Nat) (l : List Kk) (q : Kk) (w : World) (hn : l.length = n) (hn2 : n ≤ 1000) (hl : KyA w a l) : Calls Try.prog 39 #[.slice a n cap, keyV q] w fun e w' => e = .returned (.int .i64 (idxK q l : Int)) ∧ Below w.heap.size w w' := by
  obtain ⟨q1, q2⟩ := q
  show Calls Try.prog 39 #[.slice a n cap, .agg #[.int .i64 q1, .int .i64 q2]] w _
  obtain ⟨E, hE⟩ : ∃ E, E = idxK (q1, q2) l := ⟨_, rfl⟩
  rw [← hE]
  have HE := Lib.hid hE
  have HL := Lib.hid hl
  have HN := Lib.hid hn
  clear hE hl hn
  go_enter Try.func39, Try.ntmps39
  go_wp2_with fail
  go_loopw [9] (fun i wr => ∃ k : Nat, k ≤ n ∧ i = .int .i64 (k : Int) ∧ (∀ t x, t < k → l[t]? = some x → x ≠ (q1, q2)) ∧ Below w.heap.size w wr ∧ wr.cell? ⟨w.heap.size, 0, none⟩ = some (.int .i64 q1) ∧ wr.cell? ⟨w.heap.size, 1, none⟩ = some (.int .i64 q2)) (fun i _ => n - (intOf i).toNat)
  case atStart => exact ⟨0, Nat.zero_le _, rfl, fun t x ht _ => by omega, boxed _ _, by simp [go_sem], by simp [go_sem]⟩
  case round =>
    obtain ⟨k, hk, rfl, hall, hb, d0, d1⟩ := hrel
    have HA := Lib.hid hall
    have HB := Lib.hid hb
    have hz := World.block_lt_of_cell? _ _ d0
    clear hall hb
    by_cases hlt : k < n
    · obtain ⟨x, hx⟩ : ∃ x, l[k]? = some x := ⟨l[k]'(by rw [HN.out]; exact hlt), List.getElem?_eq_getElem _⟩
      obtain ⟨b, o, ha, c0, c1⟩ := ky_at (HL.out.up HB.out) hx
      subst ha
      have HX := Lib.hid hx
      clear hx
      obtain ⟨x1, x2⟩ := x
      by_cases e : x1 = q1 ∧ x2 = q2
      · obtain ⟨rfl, rfl⟩ := e
        have hEk : E = k := HE.out.trans (idxK_at HX.out HA.out)
        go_wp2_with fail
        go_ret
        exact ⟨rfl, HB.out.alloc HB.out.size _⟩
      · have HA1 : Hid (∀ t x, t < k + 1 → l[t]? = some x → x ≠ (q1, q2)) := fun t x ht hx2 => by
          by_cases z : t = k
          · subst z
            rw [HX.out] at hx2
            rintro rfl
            injection hx2 with hx2
            injection hx2 with z1 z2
            exact e ⟨z1, z2⟩
          · exact HA.out t x (by omega) hx2
        have e1 : IntKind.i64.wrap ((k : Int) + 1) = (k : Int) + 1 := IntWalk.i64_in _ (by omega)
        go_wp2_with fail
        all_goals
          refine ⟨⟨k + 1, by omega, by go_num, HA1.out, HB.out.alloc HB.out.size _, ?_, ?_⟩, ?_⟩
          · exact (World.cell?_alloc_past _ _ _ hz).trans d0
          · exact (World.cell?_alloc_past _ _ _ hz).trans d1
          · simp [intOf]; omega
    · obtain rfl : k = n := by omega
      have hEk : E = k := HE.out.trans ((idxK_all (fun j x hj => HA.out j x (by rw [HN.out] at hj; exact hj))).trans HN.out)
      go_wp2_with fail
      go_ret
      exact ⟨rfl, HB.out⟩
end Go.Proofs.Ytjmgncjadfhmcaa
