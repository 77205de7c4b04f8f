/- The reference: even, Same. -/
import Derived.Test.YtiaocahcdbikhaaRgA
namespace Go.Proofs.Ytiaocahcdbikhaa
open Go.RowKit

/-- a sum so far, in the first new block -/
def Sm (w : World) (n s : Int) (a : Option Addr) (len cap : Nat) (W : World) : Prop :=
  Below w.heap.size w W ∧ w.heap.size + 1 ≤ W.heap.size ∧ Row2 W w.heap.size (.int .i64 s) (.slice a len cap) ∧ (∃ C fr, W.heap[w.heap.size]? = some (.cells C 50 fr)) ∧ Ex W s a len cap n
section
variable {w W W' : World} {n s m t : Int} {a b : Option Addr} {len cap len2 cap2 : Nat}
theorem Sm.up (h : Sm w n s a len cap W) (hb : Below W.heap.size W W') : Sm w n s a len cap W' := by
  obtain ⟨h1, h2, h4, ⟨C, fr, h5⟩, h6⟩ := h
  exact ⟨h1.trans (hb.mono (by omega)), Nat.le_trans h2 hb.size, h4.below hb, ⟨C, fr, by rw [hb.block _ (heap_lt h5)]; exact h5⟩, h6.below hb⟩
theorem Sm.drew (h : Sm w n s a len cap W) : Sm w n s a len cap W.drew := h.up (Below.refl _ _).drew
theorem Sm.put (h : Sm w n s a len cap W) (hE : Ex W t b len2 cap2 m) :
    Sm w m t b len2 cap2 ((W.setCell ⟨w.heap.size, 0, none⟩ (.int .i64 t)).setCell ⟨w.heap.size, 1, none⟩ (.slice b len2 cap2)) := by
  obtain ⟨h1, h2, h4, h5, h6⟩ := h
  obtain ⟨e1, l, e2, e3, e4⟩ := hE
  exact ⟨(h1.setCell (Nat.le_refl _) _).setCell (Nat.le_refl _) _, by simpa using h2, h4.put _ _, type_set (type_set h5 0 _) 1 _, ⟨e1, l, e2, (e3.set h5 0 _).set (type_set h5 0 _) 1 _, e4⟩⟩
theorem Sm.start (w : World) : Sm w 0 0 none 0 0 (w.alloc (.cells #[.int .i64 0, .slice none 0 0] 50)) :=
  ⟨(Below.refl _ _).alloc (Nat.le_refl _) _, by simp, Row2.new _ _ _ _, ⟨_, _, heap_alloc_new w _⟩, ex_zero rfl 0⟩
end
section
variable {w w' : World}
theorem PsA.at {a : Option Addr} {ps : List Po} {k : Nat} {x : Po} (h : PsA w a ps) (hx : ps[k]? = some x) : ∃ b o, a = some ⟨b, o, none⟩ ∧ w.cell? ⟨b, o + k * 3, none⟩ = some (.int .i64 x.a) ∧ w.cell? ⟨b, o + k * 3 + 1, none⟩ = some (.int .i64 x.c) ∧ w.cell? ⟨b, o + k * 3 + 2, none⟩ = some (.int .i64 x.m) := by
  rcases h with h | ⟨b, o, rfl, h⟩
  · rw [h] at hx; simp at hx
  · exact ⟨b, o, rfl, h k x hx⟩
set_option maxRecDepth 100000 in
set_option maxHeartbeats 8000000 in
theorem gsame_true (a b : Option Addr) (cap cap' : Nat) (ps : List Po) (hp : PsA w a ps) (hp' : PsA w b ps) (hl : ps.length ≤ 32) :
    Calls Try.prog 13 #[.slice a ps.length cap, .slice b ps.length cap'] w fun e w' => e = .returned (.bool true) ∧ Below w.heap.size w w' := by
  have HP := Lib.hid hp
  have HQ := Lib.hid hp'
  have HL := Lib.hid hl
  clear hp hp'
  go_enter Try.func13, Try.ntmps13
  go_wp2_with fail
  go_loopw [5] (fun i wr => ∃ k : Nat, k ≤ ps.length ∧ i = .int .i64 k ∧ Below w.heap.size w wr) (fun i _ => ps.length - (intOf i).toNat)
  case atStart => exact ⟨0, Nat.zero_le _, rfl, Below.refl _ _⟩
  case round =>
    obtain ⟨k, hk, rfl, hb⟩ := hrel
    have HB := Lib.hid hb
    by_cases hlt : k < ps.length
    · obtain ⟨x, hx⟩ : ∃ x, ps[k]? = some x := ⟨_, List.getElem?_eq_getElem hlt⟩
      obtain ⟨b1, o1, rfl, z0, z1, z2⟩ := (HP.out.up hb).at hx
      obtain ⟨b2, o2, rfl, t0, t1, t2⟩ := (HQ.out.up hb).at hx
      have hk0 : (0 : Int) ≤ (k : Int) := by omega
      have hk1 : (k : Int) < (ps.length : Int) := by omega
      clear hb hx
      go_wp2_with fail
      go_region
      all_goals
        go_wp2_with fail
        go_roundw
        case rel => exact ⟨k + 1, by omega, by go_num, HB.out.drew⟩
        case measure => simp [intOf]; omega
    · clear hb
      go_wp2_with fail
      go_ret
      exact ⟨rfl, HB.out⟩
end
end Go.Proofs.Ytiaocahcdbikhaa
