/- parts, walked. -/
import Derived.Test.YthogokflobnfpaaCoB
namespace Go.Proofs.Ythogokflobnfpaa
open Go.RowKit

/-- a function of what may come and a bound, that tells points -/
structure Cnt (F : FuncId) (c : Mb → Int) (b : Int) (l : List Mb) : Prop where
  run : ∀ (U : Array Value) (W : World), (callFunc F U).run Try.prog W = .ok (.enter F U) W
  calls : ∀ x ∈ l, ∀ W : World, Calls Try.prog F #[x.val, .int .i64 b] W fun e w' => e = .returned (.int .i64 (c x)) ∧ Below W.heap.size W w'
  pts : ∀ x ∈ l, 0 ≤ c x ∧ c x ≤ 10000
  am : ∀ x ∈ l, Am x.am
theorem OwI.lower {W : World} {B B' : Nat} {v : Value} {z : List Int} (h : OwI W B v z) (q : B' ≤ B) : OwI W B' v z := by
  refine ⟨h.1, ?_⟩
  rcases h.2 with h2 | ⟨g, cp, cur, e5, h5, h6⟩
  · exact .inl h2
  · exact .inr ⟨g, cp, cur, e5, Nat.le_trans q h5, h6⟩
/-- what parts leaves -/
def PartsR (w : World) (c : Mb → Int) (l : List Mb) (e : Ending) (w' : World) : Prop := ∃ v, e = .returned v ∧ OwI w' w.heap.size v (outP c l) ∧ Below w.heap.size w w'
/-- numbers of a list, as a block bears them -/
def parF (c : Mb → Int) (l : List Mb) (k : Nat) : Nat → Int := fun t => if t < k then cP c (mbAt l t) else 0
theorem parF_step {c : Mb → Int} {l : List Mb} {k : Nat} {x : Mb} (h : l[k]? = some x) (t : Nat) : parF c l (k + 1) t = if t = k then cP c x else parF c l k t := by
  unfold parF
  by_cases z : t = k
  · subst z; rw [if_pos (by omega), if_pos rfl, mbAt_some h]
  · rw [if_neg z]
    by_cases y : t < k
    · rw [if_pos y, if_pos (by omega)]
    · rw [if_neg y, if_neg (by omega)]
theorem parF_zero (c : Mb → Int) (l : List Mb) : parF c l 0 = fun _ => 0 := by funext t; unfold parF; rw [if_neg (by omega)]

set_option maxRecDepth 100000 in
set_option maxHeartbeats 4000000 in
theorem parts_any (F : FuncId) (c : Mb → Int) (b : Int) (a : Option Addr) (cap : Nat) (l : List Mb) (w : World) (hl : MbA w a l) (hn : l.length ≤ 32) (hC : Cnt F c b l) :
    Calls Try.prog 23 #[.slice a l.length cap, .int .i64 b, .func (.func F) #[] #[]] w (PartsR w c l) := by
  obtain ⟨n, hnn⟩ : ∃ n, n = l.length := ⟨_, rfl⟩
  rw [← hnn] at hn ⊢
  have HL := Lib.hid hl
  have HN := Lib.hid hnn
  have HC := Lib.hid hC
  clear hl hnn hC
  obtain ⟨i0, hi, hz0, hz1, hz2⟩ := info_parts infoI64o
  go_enter Try.func23, Try.ntmps23
  go_wp2_with (at_make; refine wpList_make_full _ rfl _ _ 50 rfl w.heap.size 2 i0 (.int .i64 0) 1 Try.underlying50 hi hz0 hz1 .i64 .i64 _ _ n rfl rfl ?c1 ?c2 ?c3 ?c4 ?c5 ?_)
  case c1 => rfl
  case c2 => rfl
  case c3 => rw [hz2]; omega
  case c4 => unfold maxLen; omega
  case c5 => exact Nat.le_refl _
  intro w1 hown hgrow
  have hb1 : Below w.heap.size w w1 := (Below.refl _ _).grown hgrow (Nat.le_refl _) (fun k hk => by simp at hk)
  have HI := Lib.hid (made_intsO hown)
  have HB := Lib.hid hb1
  obtain ⟨g, hg⟩ : ∃ g, g = w.heap.size := ⟨_, rfl⟩
  have HG : Hid (w.heap.size ≤ g) := by rw [hg]; exact Nat.le_refl _
  rw [← hg] at HI
  rw [← hg]
  clear hown hgrow hb1 hg hi hz0 hz1 hz2 i0
  go_wp2_with fail
  go_loopw [8, 21] (fun r i wr => ∃ k : Nat, k ≤ n ∧ i = .int .i64 (k : Int) ∧ r = .int .i64 (sumM (cR c) (l.take k)) ∧ IntsO wr g n (parF c l k) ∧ Below w.heap.size w wr) (fun _ i _ => n - (intOf i).toNat)
  case atStart => exact ⟨0, Nat.zero_le _, rfl, by simp [sumM], by rw [parF_zero]; exact HI.out, HB.out⟩
  case round =>
    obtain ⟨k, hk, rfl, rfl, hI, hb⟩ := hrel
    have HIr := Lib.hid hI
    have HBr := Lib.hid hb
    clear hI hb
    by_cases hlt : k < n
    · obtain ⟨x, hx⟩ : ∃ x, l[k]? = some x := ⟨l[k]'(by rw [← HN.out]; exact hlt), List.getElem?_eq_getElem _⟩
      obtain ⟨bb, o, ha, c0, c1⟩ := mb_at (HL.out.up HBr.out) hx
      subst ha
      have hmem := List.mem_of_getElem? hx
      obtain ⟨p0, p1⟩ := HC.out.pts x hmem
      obtain ⟨m0, m1⟩ := HC.out.am x hmem
      have hrun := HC.out.run #[x.val, .int .i64 b]
      have hcall := HC.out.calls x hmem
      obtain ⟨q, hq⟩ : ∃ q, q = c x := ⟨_, rfl⟩
      rw [← hq] at p0 p1 hcall
      have HCall := Lib.hid hcall
      have HPart := Lib.hid (fun W => part_any x.am q 10000 W m0 m1 p0 (by omega) (by omega) (by omega))
      have HRest := Lib.hid (fun W => rest_any x.am q 10000 W m0 m1 p0 (by omega) (by omega) (by omega))
      have htell : tellV (x.am * q / 10000) = x.am * q / 10000 := by
        have := cP_am ⟨m0, m1⟩ p0 p1
        unfold tellV; exact if_pos this
      rw [htell] at HPart
      have hstep := parF_step (c := c) hx
      have hsum := sumM_take (g := cR c) hx
      rw [show cP c x = x.am * q / 10000 by rw [hq]; rfl] at hstep
      rw [show cR c x = x.am * q % 10000 by rw [hq]; rfl] at hsum
      have hr0 := rests_in c (l.take k)
      have hr1 := rests_in c (l.take (k + 1))
      have hlt1 : (l.take (k + 1)).length ≤ 32 := by rw [List.length_take]; omega
      have hlt0 : (l.take k).length ≤ 32 := by rw [List.length_take]; omega
      obtain ⟨R, hR⟩ : ∃ R, R = sumM (cR c) (l.take k) := ⟨_, rfl⟩
      rw [← hR] at hsum hr0 ⊢
      have hw : IntKind.i64.wrap (R + x.am * q % 10000) = R + x.am * q % 10000 := IntWalk.i64_in _ (by omega)
      have HStep := Lib.hid hstep
      have HSum := Lib.hid hsum
      unfold Mb.val at hrun HCall
      obtain ⟨A, hA⟩ : ∃ A, A = x.am := ⟨_, rfl⟩
      rw [← hA] at hrun HCall HPart HRest HStep HSum hw c0
      have hk0 : (0 : Int) ≤ (k : Int) := by omega
      have e1 : IntKind.i64.wrap ((k : Int) + 1) = (k : Int) + 1 := IntWalk.i64_in _ (by omega)
      have hgl := World.block_lt_of_cell? _ _ (HIr.out k hlt).1
      clear hx hmem hcall hq hA htell hstep hsum hr0 hr1 hlt0 hlt1 hR p0 p1 m0 m1
      go_wp2_with fail
      refine (HCall.out _).mono ?_
      rintro e w2 ⟨rfl, hb2⟩
      have HB2 := Lib.hid (up2 (boxed wr (.cells #[.int .i64 A, .int .i64 x.ch] 26)) hb2)
      have HX2 := Lib.hid ((Has.fresh wr 26 #[.int .i64 A, .int .i64 x.ch]).up hb2)
      have z0 : w2.cell? ⟨wr.heap.size, 0, none⟩ = some (.int .i64 A) := HX2.out.cell 0
      clear hb2 hrun c0 c1
      go_wp2_with fail
      refine (HPart.out _).mono ?_
      rintro e w3 ⟨rfl, hb3⟩
      have HB3 := Lib.hid (up2 HB2.out hb3)
      have z1 : w3.cell? ⟨wr.heap.size, 0, none⟩ = some (.int .i64 A) := kcell hb3 z0
      clear hb3 z0
      go_wp2_with fail
      refine (HRest.out _).mono ?_
      rintro e w4 ⟨rfl, hb4⟩
      have HB4 := Lib.hid (up2 HB3.out hb4)
      have HI4 := Lib.hid (HIr.out.up HB4.out)
      have g0 := (HI4.out k hlt).1
      have g1 := (HI4.out k hlt).2
      clear hb4 z1
      go_wp2_with fail
      go_roundw
      case rel =>
        refine ⟨k + 1, by omega, by go_num, by rw [HSum.out], HI4.out.put _ (fun t _ => HStep.out t), ?_⟩
        exact (up2 HBr.out HB4.out).setCell (p := ⟨g, k, none⟩) HG.out _
      case measure => simp [intOf]; omega
    · obtain rfl : k = n := by omega
      have htake : l.take k = l := by rw [HN.out]; exact List.take_length
      rw [htake]
      obtain ⟨R, hR⟩ : ∃ R, R = sumM (cR c) l := ⟨_, rfl⟩
      have hr0 := rests_in c l
      rw [← hR] at hr0 ⊢
      have hlen : l.length ≤ 32 := by rw [← HN.out]; exact hn
      have hw : wrap64 (Int.tdiv R 10000) = R / 10000 := by
        rw [Int.tdiv_eq_ediv_of_nonneg hr0.1]; exact IntWalk.wrap64_in _ ⟨by omega, by omega⟩
      have HO : Hid (outP c l = l.map (cP c) ++ [R / 10000]) := by rw [hR]; exact Lib.hid rfl
      obtain ⟨Q, hQ⟩ : ∃ Q, Q = R / 10000 := ⟨_, rfl⟩
      rw [← hQ] at hw HO
      obtain ⟨W1, hW1⟩ : ∃ W1, W1 = wr.alloc (.cells #[.int .i64 Q] 2) := ⟨_, rfl⟩
      have hb1 : Below wr.heap.size wr W1 := by rw [hW1]; exact boxed _ _
      obtain ⟨v', w5, hr, ho5, hg5⟩ := ints_app (HIr.out.up hb1) (by omega) (z := l.map (cP c)) (by rw [List.length_map]; exact HN.out.symm) (fun t x ht => by
        rw [List.getElem?_map] at ht
        cases q : l[t]? with
        | none => rw [q] at ht; cases ht
        | some y =>
          rw [q] at ht
          have hx : cP c y = x := Option.some.inj ht
          have htl := (List.getElem?_eq_some_iff.1 q).1
          unfold parF
          rw [if_pos (by rw [HN.out]; exact htl), mbAt_some q]; exact hx) (y := wr.heap.size) (x := Q) (by rw [hW1]; exact Has.fresh _ _ _) 50
      have HR := Lib.hid hr
      have HOw := Lib.hid ho5
      have HBe : Hid (Below w.heap.size w w5) := by
        refine up2 (up2 HBr.out hb1) ?_
        exact (Below.refl _ _).grown hg5 (Nat.le_refl _) (fun j hj => by cases hj)
      have HSz : Hid (w.heap.size ≤ W1.heap.size) := Nat.le_trans HBr.out.size hb1.size
      have HW1 := Lib.hid hW1
      clear hR hr0 hQ hW1 hb1 hr ho5 hg5 htake
      go_wp2_with (first | (rw [← HW1.out]; refine wpList_run (o := ⟨some 56, _, _, _, _, _⟩) rfl (.tmp 52) (.tmp 55) 50 rfl _ _ rfl rfl (S := fun u q => u = v' ∧ q = w5) ⟨v', w5, HR.out, rfl, rfl⟩ ?_; rintro u q ⟨rfl, rfl⟩) | fail)
      go_ret
      refine ⟨_, rfl, ?_, HBe.out⟩
      rw [HO.out]
      exact HOw.out.lower HSz.out
end Go.Proofs.Ythogokflobnfpaa
