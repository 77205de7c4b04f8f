/- NetEven: its core, over any that does as is asked. WRITTEN by wip/tools/gen_nte.py. -/
import Derived.Test.YtiaocahcdbikhaaNtB
import Derived.Test.YtiaocahcdbikhaaAcH
namespace Go.Proofs.Ytiaocahcdbikhaa
open Go.RowKit

/-- postings of a contract, even, or none -/
structure EvL (c E : Int) (L : List Po) : Prop where
  each : ∀ p ∈ L, p.c = c ∧ p.m ≠ 0 ∧ Am p.m
  sum : sumL9 (L.map Po.m) = 0
  len : L.length ≤ 4
  err : E = 0 ∨ L = []
def EvR (w : World) (c : Int) (e : Ending) (w' : World) : Prop := ∃ E L a cp, e = .returned (.tuple #[.slice a (L : List Po).length cp, .int .i64 E]) ∧ EvL c E L ∧ PsA w' a L ∧ Below w.heap.size w w'
theorem sumPo_map (L : List Po) : sumL9 (L.map Po.m) = sumPo L := by
  induction L with
  | nil => rfl
  | cons p L ih => simp only [List.map_cons, sumL9, sumPo, ih]
theorem NtR.ev {w w' : World} {c E : Int} {L : List Po} {e : Ending} (h : NtR w E L e w') (hL : E = 0 → EvL c 0 L) : EvR w c e w' := by
  rcases h.cases with ⟨q, rfl, hb⟩ | ⟨q, a, cp, rfl, hp, hb⟩
  · exact ⟨E, [], none, 0, rfl, ⟨(fun p hp => by cases hp), rfl, Nat.zero_le _, .inr rfl⟩, .inl rfl, hb⟩
  · exact ⟨0, L, a, cp, rfl, hL q, hp, hb⟩
theorem nt_ev {c b r x y : Int} (h : ntE c b r x y = 0) (hb : Am b) (hr : Am r) : EvL c 0 (ntL c b r x y) :=
  ⟨fun p hp => by
    have := nt_each (nt_ok h) hb.2 hr.2 p hp
    exact ⟨this.1, this.2.1, this.2.2.1⟩, by rw [sumPo_map, nt_even], nt_len _ _ _ _ _, .inl rfl⟩
theorem idp1 (a b : Value) (W : World) : (Instr.index 32 (.agg #[a, b]) (.int .i64 0)).run Try.prog W = .ok a W := by kernel_rfl
theorem idp2 (a b : Value) (W : World) : (Instr.index 32 (.agg #[a, b]) (.int .i64 1)).run Try.prog W = .ok b W := by kernel_rfl
set_option maxRecDepth 100000 in
set_option maxHeartbeats 8000000 in
theorem even17_law (K : NtK) (A : Aw17) (c b r x : Int) (w : World) (hb : Am b) (hr : Am r) (hx : Am x) :
    Calls Try.prog 4 #[.int .i64 c, .int .i64 b, .int .i64 r, .int .i64 x] w fun e w' => e = .returned (.bool true) ∧ Below w.heap.size w w' := by
  have HAw := Lib.hid A
  have HS := Lib.hid (fun (W : World) => K.sides W b r hb hr)
  have HSd : Hid (sidE b r = 0 → 0 ≤ sidL b r ∧ 0 ≤ sidA b r ∧ (sidL b r = 0 ∨ sidA b r = 0) ∧ IntKind.i64.wrap (sidL b r - sidA b r) = b - r ∧ IntKind.i64.wrap (b - r) = b - r) := Lib.hid fun q => by
    have h0 : 0 ≤ b ∧ 0 ≤ r := by
      unfold sidE at q
      split at q
      · cases q
      · omega
    unfold Am at hb hr
    have s := sides_bd h0.1 hb.2 h0.2 hr.2
    have d := sides_diff b r
    unfold sidL sidA
    rw [if_pos q, if_pos q, d]
    exact ⟨s.1, s.2.2.1, s.2.2.2.2, IntWalk.i64_in _ (by omega), IntWalk.i64_in _ (by omega)⟩
  have HBl := Lib.hid (fun (W : World) => (K.bill W c b r x hb hr hx).mono fun _ _ z => z.ev (c := c) fun q => nt_ev q hb hr)
  have HEr := Lib.hid (fun (W : World) => (K.earn W c b r x hb hr hx).mono fun _ _ z => z.ev (c := c) fun q => nt_ev q hb hr)
  unfold EvR at HBl HEr
  generalize sidE b r = sE at HS HSd
  generalize sidL b r = sL at HS HSd
  generalize sidA b r = sA at HS HSd
  clear K A hb hr hx
  go_enter Try.func4, Try.ntmps4
  go_wp2_with fail
  refine (HAw.out _).mono ?_
  rintro e w1 ⟨rfl, hb1⟩
  have B1 := Lib.hid hb1
  clear hb1
  go_wp2_with fail
  refine (HS.out _).mono ?_
  rintro e w2 ⟨rfl, hb2⟩
  have B2 := Lib.hid (up2 B1.out hb2)
  clear hb2
  have hway : (sE == 0) = false ∨ (sE = 0 ∧ ¬ sL < 0 ∧ ¬ sA < 0 ∧ 0 < sL ∧ ¬ 0 < sA ∧ IntKind.i64.wrap (sL - sA) = b - r ∧ IntKind.i64.wrap (b - r) = b - r) ∨ (sE = 0 ∧ ¬ sL < 0 ∧ ¬ sA < 0 ∧ ¬ 0 < sL ∧ IntKind.i64.wrap (sL - sA) = b - r ∧ IntKind.i64.wrap (b - r) = b - r) := by
    by_cases q : sE = 0
    · obtain ⟨f1, f2, f3, f4, f5⟩ := HSd.out q
      by_cases g3 : 0 < sL
      · exact .inr (.inl ⟨q, by omega, by omega, g3, by omega, f4, f5⟩)
      · exact .inr (.inr ⟨q, by omega, by omega, g3, f4, f5⟩)
    · exact .inl (by simpa using q)
  clear HSd
  rcases hway with q | ⟨rfl, g1, g2, g3, g4, g5, g6⟩ | ⟨rfl, g1, g2, g3, g5, g6⟩
  all_goals
    go_wp2_with fail
    refine (HBl.out _).mono ?_
    rintro e w3 ⟨E1, L1, a1, c1, rfl, hv1, hp1, hb3⟩
    have B3 := Lib.hid (up2 B2.out hb3)
    have HV1 := Lib.hid hv1
    obtain ⟨n1, hn1⟩ : ∃ n, n = L1.length := ⟨_, rfl⟩
    have HN1 := Lib.hid hn1.symm
    have hl1 := hv1.len
    have P1 := Lib.hid hp1
    rw [← hn1] at hl1 ⊢
    clear hb3 hv1 hp1 hn1
    go_wp2_with fail
    refine (HEr.out _).mono ?_
    rintro e w4 ⟨E2, L2, a2, c2, rfl, hv2, hp2, hb4⟩
    have B4 := Lib.hid (up2 B3.out hb4)
    have HV2 := Lib.hid hv2
    obtain ⟨n2, hn2⟩ : ∃ n, n = L2.length := ⟨_, rfl⟩
    have HN2 := Lib.hid hn2.symm
    have hl2 := hv2.len
    have P14 := Lib.hid (P1.out.up hb4)
    have P2 := Lib.hid hp2
    rw [← hn2] at hl2 ⊢
    clear hb4 hv2 hp2 hn2
    go_wp2_with fail
    go_loopw [78] (fun v wr => (v = .int .i64 0 ∨ v = .int .i64 1 ∨ v = .int .i64 2) ∧ Below w4.heap.size w4 wr) (fun v _ => 2 - (intOf v).toNat)
    case atStart => exact ⟨.inl rfl, Below.refl _ _⟩
    case round =>
      obtain ⟨rfl | rfl | rfl, hb⟩ := hrel
      · have HB0 := Lib.hid hb
        have HP0 := Lib.hid (fun (W : World) (q : Below w4.heap.size w4 W) => P14.out.up q)
        clear hb
        have hix := idp1 (.slice a1 n1 c1) (.slice a2 n2 c2) wr
        go_wp2_with fail
        clear hix
        go_loopw [18, 83] (fun al v wz => ∃ k : Nat, k ≤ n1 ∧ v = .int .i64 (k : Int) ∧ Am1 wz w4.heap.size al ((L1.take k).map Po.m) ∧ Below w4.heap.size w4 wz) (fun _ v _ => n1 - (intOf v).toNat)
        case atStart => exact ⟨0, Nat.zero_le _, rfl, World.ownsRow_nil _ _ _ _, HB0.out⟩
        case round =>
          obtain ⟨k, hk, rfl, hA, hb⟩ := hrel
          have HA := Lib.hid hA
          have HB := Lib.hid hb
          clear hA hb
          by_cases hlt : k < n1
          · obtain ⟨p, hp⟩ : ∃ p, L1[k]? = some p := ⟨L1[k]'(by rw [HN1.out]; exact hlt), List.getElem?_eq_getElem _⟩
            obtain ⟨b1, o1, ha, z0, z1, z2⟩ := (HP0.out wr HB.out).at hp
            subst ha
            obtain ⟨h1, h2, h3⟩ := HV1.out.each p (List.mem_of_getElem? hp)
            have hst : (L1.take (k + 1)).map Po.m = (L1.take k).map Po.m ++ [p.m] := by rw [List.take_add_one, hp]; simp
            rw [h1] at z1
            generalize p.a = pa at z0
            generalize p.m = pm at z2 h2 h3 hst
            have b2 : (pm == 0) = false := by simpa using h2
            have hk0 : (0 : Int) ≤ (k : Int) := by omega
            have hk1 : (k : Int) < (n1 : Int) := by omega
            have e1 : IntKind.i64.wrap ((k : Int) + 1) = (k : Int) + 1 := IntWalk.i64_in _ (by omega)
            obtain ⟨W1, hW1⟩ : ∃ W1, W1 = (wr.alloc (.cells #[.int .i64 pa, .int .i64 c, .int .i64 pm] 35)).alloc (.cells #[.int .i64 pm] 2) := ⟨_, rfl⟩
            have hb1 : Below wr.heap.size wr W1 := by rw [hW1]; exact up2 (boxed _ _) (boxed _ _)
            have hy : W1.cell? ⟨(wr.alloc (.cells #[.int .i64 pa, .int .i64 c, .int .i64 pm] 35)).heap.size, 0, none⟩ = some (.int .i64 pm) := by
              rw [hW1]
              exact (Has.fresh (wr.alloc (.cells #[.int .i64 pa, .int .i64 c, .int .i64 pm] 35)) 2 #[.int .i64 pm]).cell 0
            obtain ⟨v', w5, hr, hA5, hg5, _⟩ := app_one 33 (HA.out.up hb1) (up2 HB.out hb1).size (by rw [List.length_map, List.length_take]; omega) hy
            have hb5 : Below w4.heap.size w4 w5 := (up2 HB.out hb1).grown hg5 (up2 HB.out hb1).size (fun j hj => (World.ownsRow.lt (HA.out.up hb1) j hj).1)
            rw [← hst] at hA5
            have HR := Lib.hid hr
            have HA5 := Lib.hid hA5
            have HB5 := Lib.hid hb5
            have HW1 := Lib.hid hW1
            have hs1 : (wr.alloc (.cells #[.int .i64 pa, .int .i64 c, .int .i64 pm] 35)).heap.size = wr.heap.size + 1 := by simp
            rw [hs1] at HR
            clear hp h1 h2 hst hW1 hb1 hy hr hA5 hg5 hb5 hs1
            go_wp2_with (first | (at_builtin; rw [← HW1.out]; refine wpList_run (o := ⟨some 100, _, _, _, _, _⟩) rfl (.tmp 96) (.tmp 99) 33 rfl _ _ rfl rfl (S := fun u q => u = v' ∧ q = w5) ⟨v', w5, HR.out, rfl, rfl⟩ ?_; rintro u q ⟨rfl, rfl⟩) | fail)
            exact ⟨⟨k + 1, by omega, by go_num, HA5.out, HB5.out⟩, by simp [intOf]; omega⟩
          · obtain rfl : k = n1 := by omega
            have hz : (L1.take k).map Po.m = L1.map Po.m := by rw [List.take_of_length_le (by rw [HN1.out]; exact Nat.le_refl _)]
            have HSum := Lib.hid (sum_am1 HA.out (fun z hz2 => by
              rw [hz] at hz2
              obtain ⟨p, hp, rfl⟩ := List.mem_map.1 hz2
              exact (HV1.out.each p hp).2.2) (by rw [List.length_map, List.length_take]; omega))
            rw [hz, HV1.out.sum, show tellV 0 = 0 by rfl, show tellE 0 = 0 by rfl] at HSum
            clear hz
            go_wp2_with fail
            refine HSum.out.mono ?_
            rintro e w6 ⟨rfl, hb6⟩
            have HB6 := Lib.hid (up2 HB.out hb6)
            clear hb6
            go_wp2_with fail
            exact ⟨⟨.inr (.inl rfl), HB6.out⟩, by simp [intOf]⟩
      · have HB0 := Lib.hid hb
        have HP0 := Lib.hid (fun (W : World) (q : Below w4.heap.size w4 W) => P2.out.up q)
        clear hb
        have hix := idp2 (.slice a1 n1 c1) (.slice a2 n2 c2) wr
        go_wp2_with fail
        clear hix
        go_loopw [18, 83] (fun al v wz => ∃ k : Nat, k ≤ n2 ∧ v = .int .i64 (k : Int) ∧ Am1 wz w4.heap.size al ((L2.take k).map Po.m) ∧ Below w4.heap.size w4 wz) (fun _ v _ => n2 - (intOf v).toNat)
        case atStart => exact ⟨0, Nat.zero_le _, rfl, World.ownsRow_nil _ _ _ _, HB0.out⟩
        case round =>
          obtain ⟨k, hk, rfl, hA, hb⟩ := hrel
          have HA := Lib.hid hA
          have HB := Lib.hid hb
          clear hA hb
          by_cases hlt : k < n2
          · obtain ⟨p, hp⟩ : ∃ p, L2[k]? = some p := ⟨L2[k]'(by rw [HN2.out]; exact hlt), List.getElem?_eq_getElem _⟩
            obtain ⟨b1, o1, ha, z0, z1, z2⟩ := (HP0.out wr HB.out).at hp
            subst ha
            obtain ⟨h1, h2, h3⟩ := HV2.out.each p (List.mem_of_getElem? hp)
            have hst : (L2.take (k + 1)).map Po.m = (L2.take k).map Po.m ++ [p.m] := by rw [List.take_add_one, hp]; simp
            rw [h1] at z1
            generalize p.a = pa at z0
            generalize p.m = pm at z2 h2 h3 hst
            have b2 : (pm == 0) = false := by simpa using h2
            have hk0 : (0 : Int) ≤ (k : Int) := by omega
            have hk1 : (k : Int) < (n2 : Int) := by omega
            have e1 : IntKind.i64.wrap ((k : Int) + 1) = (k : Int) + 1 := IntWalk.i64_in _ (by omega)
            obtain ⟨W1, hW1⟩ : ∃ W1, W1 = (wr.alloc (.cells #[.int .i64 pa, .int .i64 c, .int .i64 pm] 35)).alloc (.cells #[.int .i64 pm] 2) := ⟨_, rfl⟩
            have hb1 : Below wr.heap.size wr W1 := by rw [hW1]; exact up2 (boxed _ _) (boxed _ _)
            have hy : W1.cell? ⟨(wr.alloc (.cells #[.int .i64 pa, .int .i64 c, .int .i64 pm] 35)).heap.size, 0, none⟩ = some (.int .i64 pm) := by
              rw [hW1]
              exact (Has.fresh (wr.alloc (.cells #[.int .i64 pa, .int .i64 c, .int .i64 pm] 35)) 2 #[.int .i64 pm]).cell 0
            obtain ⟨v', w5, hr, hA5, hg5, _⟩ := app_one 33 (HA.out.up hb1) (up2 HB.out hb1).size (by rw [List.length_map, List.length_take]; omega) hy
            have hb5 : Below w4.heap.size w4 w5 := (up2 HB.out hb1).grown hg5 (up2 HB.out hb1).size (fun j hj => (World.ownsRow.lt (HA.out.up hb1) j hj).1)
            rw [← hst] at hA5
            have HR := Lib.hid hr
            have HA5 := Lib.hid hA5
            have HB5 := Lib.hid hb5
            have HW1 := Lib.hid hW1
            have hs1 : (wr.alloc (.cells #[.int .i64 pa, .int .i64 c, .int .i64 pm] 35)).heap.size = wr.heap.size + 1 := by simp
            rw [hs1] at HR
            clear hp h1 h2 hst hW1 hb1 hy hr hA5 hg5 hb5 hs1
            go_wp2_with (first | (at_builtin; rw [← HW1.out]; refine wpList_run (o := ⟨some 100, _, _, _, _, _⟩) rfl (.tmp 96) (.tmp 99) 33 rfl _ _ rfl rfl (S := fun u q => u = v' ∧ q = w5) ⟨v', w5, HR.out, rfl, rfl⟩ ?_; rintro u q ⟨rfl, rfl⟩) | fail)
            exact ⟨⟨k + 1, by omega, by go_num, HA5.out, HB5.out⟩, by simp [intOf]; omega⟩
          · obtain rfl : k = n2 := by omega
            have hz : (L2.take k).map Po.m = L2.map Po.m := by rw [List.take_of_length_le (by rw [HN2.out]; exact Nat.le_refl _)]
            have HSum := Lib.hid (sum_am1 HA.out (fun z hz2 => by
              rw [hz] at hz2
              obtain ⟨p, hp, rfl⟩ := List.mem_map.1 hz2
              exact (HV2.out.each p hp).2.2) (by rw [List.length_map, List.length_take]; omega))
            rw [hz, HV2.out.sum, show tellV 0 = 0 by rfl, show tellE 0 = 0 by rfl] at HSum
            clear hz
            go_wp2_with fail
            refine HSum.out.mono ?_
            rintro e w6 ⟨rfl, hb6⟩
            have HB6 := Lib.hid (up2 HB.out hb6)
            clear hb6
            go_wp2_with fail
            exact ⟨⟨.inr (.inr rfl), HB6.out⟩, by simp [intOf]⟩
      · have HB := Lib.hid (up2 B4.out hb)
        clear hb
        have w1 : (E1 == 0) = true ∨ ((E1 == 0) = false ∧ n1 = 0) := by
          rcases HV1.out.err with z | z
          · left; simpa using z
          · have h0 : n1 = 0 := by rw [← HN1.out, z]; rfl
            cases q : (E1 == 0) with
            | true => exact .inl rfl
            | false => exact .inr ⟨rfl, h0⟩
        have w2 : (E2 == 0) = true ∨ ((E2 == 0) = false ∧ n2 = 0) := by
          rcases HV2.out.err with z | z
          · left; simpa using z
          · have h0 : n2 = 0 := by rw [← HN2.out, z]; rfl
            cases q : (E2 == 0) with
            | true => exact .inl rfl
            | false => exact .inr ⟨rfl, h0⟩
        rcases w1 with w1 | ⟨w1, h1⟩ <;> rcases w2 with w2 | ⟨w2, h2⟩
        all_goals
          (try subst h1)
          (try subst h2)
          go_wp2_with fail
          go_ret
          exact ⟨rfl, HB.out⟩
end Go.Proofs.Ytiaocahcdbikhaa
