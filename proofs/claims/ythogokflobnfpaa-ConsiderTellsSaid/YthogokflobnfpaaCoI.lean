/- ConsiderTells. -/
import Derived.Test.YthogokflobnfpaaCrC
import Derived.Test.YthogokflobnfpaaBoRun
namespace Go.Proofs.Ythogokflobnfpaa
open Go.RowKit

theorem infoRMaybe : (Try.prog.info? 27).map (fun i => (i.zero, i.size, i.bytes)) = some (some (.agg #[.int .i64 0, .int .i64 0]), 2, 16) := by kernel_rfl
/-- a row of what may come, of a call's own -/
abbrev OwM (W : World) (B : Nat) (v : Value) (z : List Mb) : Prop := W.ownsRow B 27 2 v z.length (z.flatMap Mb.cells)
theorem OwM.up {W W' : World} {B : Nat} {v : Value} {z : List Mb} (h : OwM W B v z) (q : Below W.heap.size W W') : OwM W' B v z := World.ownsRow.kept h (grown_of q none) (by cases v.ownBlock <;> simp)
theorem owm_app {W : World} {B : Nat} {v : Value} {z : List Mb} (h : OwM W B v z) (hz : z.length ≤ 1000) (hB : B ≤ W.heap.size) {y : Nat} {x : Mb} (hy : Has W y 27 #[.int .i64 x.am, .int .i64 x.ch]) (ty : TypeId) :
    ∃ v' w', (Builtin.append_ #[24, 24] ty #[v, .slice (some ⟨y, 0, none⟩) 1 1]).run Try.prog W = .ok v' w' ∧ OwM w' B v' (z ++ [x]) ∧ W.grownBy w' v.ownBlock := by
  obtain ⟨i, hi, hz0, hz1, hz2⟩ := info_parts infoRMaybe
  obtain ⟨v', w', hr, ho, hg, _⟩ := run_append_own_at (P := Try.prog) W B 24 ty 27 i _ 2 16 Try.underlying24 hi hz0 hz1 hz2 rfl (by decide) v z.length _ h ⟨y, 0, none⟩ 1 1 x.cells rfl
    (fun j u hu => by
      rw [addr_off, Nat.zero_add, hy.cell]
      exact (List.getElem?_toArray (xs := x.cells) (i := j)).trans hu)
    (fun u hu => by
      simp [Mb.cells] at hu
      rcases hu with rfl | rfl <;> rfl) (by unfold maxLen; omega) (by omega) hB
  refine ⟨v', w', hr, ?_, hg⟩
  show w'.ownsRow B 27 2 v' (z ++ [x]).length ((z ++ [x]).flatMap Mb.cells)
  rw [List.length_append, List.flatMap_append, List.flatMap_singleton]; exact ho
theorem OwM.rows {W : World} {B : Nat} {v : Value} {z : List Mb} {n : Nat} (h : OwM W B v z) (hn : z.length = n) : ∃ a c, v = .slice a n c ∧ MbA W a z := by
  obtain ⟨a, c, rfl⟩ := own_formb h
  exact ⟨a, c, by rw [hn], (own_rws mb_len h rfl).1⟩

set_option maxRecDepth 100000 in
set_option maxHeartbeats 8000000 in
theorem ctells_law (w : World) (f : Int) (a : Option Addr) (cap : Nat) (l : List Mb) (b : Int) (hl : MbA w a l) (hf : Am f) (ha : ∀ x ∈ l, mbG x) :
    Calls Try.prog 3 #[.int .i64 f, .slice a l.length cap, .int .i64 b] w fun e w' => e = .returned (.bool true) ∧ Below w.heap.size w w' := by
  obtain ⟨n, hn⟩ : ∃ n, n = l.length := ⟨_, rfl⟩
  rw [← hn]
  by_cases q1 : 40 < n
  · have q1' : (40 : Int) < (n : Int) := by omega
    clear hl hf ha hn q1
    go_enter Try.func3, Try.ntmps3
    go_wp2_with fail
    refine (awake_any12 _).mono ?_
    rintro e w1 ⟨rfl, hb⟩
    have HB := Lib.hid hb
    clear hb
    go_wp2_with fail
    go_ret
    exact ⟨rfl, HB.out⟩
  · have q1' : ¬ (40 : Int) < (n : Int) := by omega
    have H1 := Lib.hid (fun (W : World) (q : Below w.heap.size w W) => likely_any f b a n cap l W hn.symm (hl.up q) hf ha)
    have H3 := Lib.hid (fun (W : World) (q : Below w.heap.size w W) => meanC_any f a n cap l W hn.symm (hl.up q) hf ha)
    have H2 := Lib.hid (fun (a' : Option Addr) (c' : Nat) (W : World) (h : MbA W a' l) => qlik_any f b a' n c' l W hn.symm h hf ha)
    have H4 := Lib.hid (fun (a' : Option Addr) (c' : Nat) (W : World) (h : MbA W a' l) => qmea_any f a' n c' l W hn.symm h hf ha)
    unfold CopR at H1 H2 H3 H4
    obtain ⟨E, hE⟩ : ∃ E, E = likE f l b := ⟨_, rfl⟩
    obtain ⟨V, hV⟩ : ∃ V, V = likV f l b := ⟨_, rfl⟩
    obtain ⟨F, hF⟩ : ∃ F, F = meaE f l := ⟨_, rfl⟩
    obtain ⟨U, hU⟩ : ∃ U, U = meaV f l := ⟨_, rfl⟩
    rw [← hE, ← hV] at H1 H2
    rw [← hF, ← hU] at H3 H4
    have HL := Lib.hid hl
    have HN := Lib.hid hn
    clear hl hf ha hn hE hV hF hU q1
    go_enter Try.func3, Try.ntmps3
    go_wp2_with fail
    refine (awake_any12 _).mono ?_
    rintro e w1 ⟨rfl, hb⟩
    have HB1 := Lib.hid hb
    clear hb
    go_wp2_with fail
    go_loopw [7, 25] (fun v i wr => ∃ k : Nat, k ≤ n ∧ i = .int .i64 (k : Int) ∧ OwM wr w.heap.size v (l.take k) ∧ Below w.heap.size w wr) (fun _ i _ => n - (intOf i).toNat)
    case atStart => exact ⟨0, Nat.zero_le _, rfl, by rw [List.take_zero]; exact World.ownsRow_nil _ _ _ _, HB1.out⟩
    case round =>
      obtain ⟨k, hk, rfl, hO, hb⟩ := hrel
      have HO := Lib.hid hO
      have HB := Lib.hid hb
      clear hO hb
      by_cases hlt : k < n
      · obtain ⟨x, hx⟩ : ∃ x, l[k]? = some x := ⟨l[k]'(by rw [← HN.out]; exact hlt), List.getElem?_eq_getElem _⟩
        obtain ⟨bb, o, hab, c0, c1⟩ := mb_at (HL.out.up HB.out) hx
        subst hab
        have htk : l.take (k + 1) = l.take k ++ [x] := by rw [List.take_add_one, hx]; rfl
        have HTk := Lib.hid htk
        obtain ⟨A, hA⟩ : ∃ A, A = x.am := ⟨_, rfl⟩
        obtain ⟨C, hC⟩ : ∃ C, C = x.ch := ⟨_, rfl⟩
        obtain ⟨W1, hW1⟩ : ∃ W1, W1 = (wr.alloc (.cells #[.int .i64 A, .int .i64 C] 26)).alloc (.cells #[.int .i64 A, .int .i64 C] 27) := ⟨_, rfl⟩
        have hb1 : Below wr.heap.size wr W1 := by rw [hW1]; exact up2 (boxed _ _) (boxed _ _)
        obtain ⟨v', w5, hr, ho5, hg5⟩ := owm_app (HO.out.up hb1) (by rw [List.length_take]; omega) (Nat.le_trans HB.out.size hb1.size) (y := wr.heap.size + 1) (x := x)
          (by rw [hW1, hA, hC, show wr.heap.size + 1 = (wr.alloc (.cells #[.int .i64 x.am, .int .i64 x.ch] 26)).heap.size by simp]; exact Has.fresh _ _ _) 24
        rw [← htk] at ho5
        have HR := Lib.hid hr
        have HO5 := Lib.hid ho5
        have HB5 : Hid (Below w.heap.size w w5) :=
          (up2 HB.out hb1).grown hg5 (Nat.le_trans HB.out.size hb1.size) (fun j hj => (World.ownsRow.lt (HO.out.up hb1) j hj).1)
        have HW1 := Lib.hid hW1
        rw [← hA] at c0
        rw [← hC] at c1
        clear hx htk hA hC hW1 hb1 hr ho5 hg5
        go_wp2_with (first | (rw [← HW1.out]; refine wpList_run (o := ⟨some 32, _, _, _, _, _⟩) rfl (.tmp 29) (.tmp 31) 24 rfl _ _ rfl rfl (S := fun u q => u = v' ∧ q = w5) ⟨v', w5, HR.out, rfl, rfl⟩ ?_; rintro u q ⟨rfl, rfl⟩) | fail)
        go_roundw
        case rel => exact ⟨k + 1, by omega, by go_num, HO5.out, HB5.out⟩
        case measure => simp [intOf]; omega
      · obtain rfl : k = n := by omega
        obtain ⟨a', c', e', hM⟩ := HO.out.rows (n := k) (by rw [List.length_take, ← HN.out]; omega)
        have htake : l.take k = l := by rw [HN.out]; exact List.take_length
        rw [htake] at hM
        have HM := Lib.hid hM
        subst e'
        clear htake hM
        go_wp2_with fail
        refine (H1.out _ HB.out).mono ?_
        rintro e w2 ⟨rfl, hb⟩
        have HM2 := Lib.hid (HM.out.up hb)
        have HB2 := Lib.hid (up2 HB.out hb)
        clear hb
        go_wp2_with fail
        refine (H2.out _ _ _ HM2.out).mono ?_
        rintro e w3 ⟨rfl, hb⟩
        have HM3 := Lib.hid (HM2.out.up hb)
        have HB3 := Lib.hid (up2 HB2.out hb)
        clear hb
        go_wp2_with fail
        refine (H3.out _ HB3.out).mono ?_
        rintro e w4 ⟨rfl, hb⟩
        have HM4 := Lib.hid (HM3.out.up hb)
        have HB4 := Lib.hid (up2 HB3.out hb)
        clear hb
        go_wp2_with fail
        refine (H4.out _ _ _ HM4.out).mono ?_
        rintro e w5 ⟨rfl, hb⟩
        have HB5 := Lib.hid (up2 HB4.out hb)
        clear hb
        go_wp2_with fail
        go_ret
        exact ⟨rfl, HB5.out⟩
end Go.Proofs.Ythogokflobnfpaa
