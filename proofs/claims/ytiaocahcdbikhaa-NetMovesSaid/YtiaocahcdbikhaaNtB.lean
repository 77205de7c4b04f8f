/- NetBack: its core, over any that does as is asked. -/
import Derived.Test.YtiaocahcdbikhaaNtC
namespace Go.Proofs.Ytiaocahcdbikhaa
open Go.RowKit

/-- postings, and those back, or why there are none -/
theorem NtR.cases {w w' : World} {E : Int} {L : List Po} {e : Ending} (h : NtR w E L e w') : (E ≠ 0 ∧ e = .returned (.tuple #[.slice none 0 0, .int .i64 E]) ∧ Below w.heap.size w w') ∨ (E = 0 ∧ NtTd w L e w') := by
  by_cases q : E = 0
  · subst q; exact .inr ⟨rfl, h.told⟩
  · obtain ⟨hb, ⟨_, he⟩ | ⟨z, _⟩⟩ := h
    · exact .inl ⟨q, he, hb⟩
    · exact absurd z q
set_option maxRecDepth 100000 in
set_option maxHeartbeats 4000000 in
theorem back17_law (K : NtK) (A : Aw17) (b r x : Int) (w : World) (hb : Am b) (hr : Am r) (hx : Am x) :
    Calls Try.prog 6 #[.int .i64 b, .int .i64 r, .int .i64 x] w fun e w' => e = .returned (.bool true) ∧ Below w.heap.size w w' := by
  have HAw := Lib.hid A
  by_cases hx0 : x = -9223372036854775808
  · subst hx0
    go_enter Try.func6, Try.ntmps6
    go_wp2_with fail
    refine (HAw.out _).mono ?_
    rintro e w1 ⟨rfl, hb1⟩
    have B1 := Lib.hid hb1
    clear hb1
    go_wp2_with fail
    go_ret
    exact ⟨rfl, B1.out⟩
  have hx0' : (x == -9223372036854775808) = false := by simpa using hx0
  have HBl := Lib.hid (fun (W : World) => (K.bill W 0 b r x hb hr hx).mono fun _ _ z => z.cases)
  have HEr := Lib.hid (fun (W : World) => (K.earn W 0 b r x hb hr hx).mono fun _ _ z => z.cases)
  have HBb : Hid (ntE 0 b r x 0 = 0 → IntKind.i64.wrap (b + x) = b + x ∧ IntKind.i64.wrap (-x) = -x ∧ (ntL 0 b r x 0).length ≤ 4 ∧ (∀ p ∈ ntL 0 b r x 0, -9223372036854775808 < p.m ∧ p.m ≤ 9223372036854775807) ∧ ∀ W, Calls Try.prog 10 #[.int .i64 0, .int .i64 (b + x), .int .i64 r, .int .i64 (-x)] W (NtTd W ((ntL 0 b r x 0).map negPo))) := Lib.hid fun q => by
    have k := nt_ok q
    have h1 := k.b0; have h2 := k.b2; have h3 := k.b3
    unfold Am at hb hr hx
    have e := nt_back 0 b r x 0
    have e2 := nt_back_ok k (by omega) (by omega)
    rw [Int.add_zero, Int.neg_zero] at e e2
    refine ⟨IntWalk.i64_in _ (by omega), IntWalk.i64_in _ (by omega), nt_len _ _ _ _ _, fun p hp => ?_, fun W => ?_⟩
    · have := nt_each k (by omega) (by omega) p hp
      have h4 := nt_each (nt_ok e2) (by omega) (by omega) (negPo p) (by rw [e]; exact List.mem_map_of_mem hp)
      unfold Am negPo at *
      simp only at h4
      omega
    · have := K.bill W 0 (b + x) r (-x) (by unfold Am; omega) (by unfold Am; omega) (by unfold Am; omega)
      rw [e2, e] at this
      exact this.mono fun _ _ z => z.told
  have HEb : Hid (ntE 0 b r 0 x = 0 → IntKind.i64.wrap (r + x) = r + x ∧ IntKind.i64.wrap (-x) = -x ∧ (ntL 0 b r 0 x).length ≤ 4 ∧ (∀ p ∈ ntL 0 b r 0 x, -9223372036854775808 < p.m ∧ p.m ≤ 9223372036854775807) ∧ ∀ W, Calls Try.prog 12 #[.int .i64 0, .int .i64 b, .int .i64 (r + x), .int .i64 (-x)] W (NtTd W ((ntL 0 b r 0 x).map negPo))) := Lib.hid fun q => by
    have k := nt_ok q
    have h1 := k.r0; have h2 := k.r2; have h3 := k.r3
    unfold Am at hb hr hx
    have e := nt_back 0 b r 0 x
    have e2 := nt_back_ok k (by omega) (by omega)
    rw [Int.add_zero, Int.neg_zero] at e e2
    refine ⟨IntWalk.i64_in _ (by omega), IntWalk.i64_in _ (by omega), nt_len _ _ _ _ _, fun p hp => ?_, fun W => ?_⟩
    · have := nt_each k (by omega) (by omega) p hp
      have h4 := nt_each (nt_ok e2) (by omega) (by omega) (negPo p) (by rw [e]; exact List.mem_map_of_mem hp)
      unfold Am negPo at *
      simp only at h4
      omega
    · have := K.earn W 0 b (r + x) (-x) (by unfold Am; omega) (by unfold Am; omega) (by unfold Am; omega)
      rw [e2, e] at this
      exact this.mono fun _ _ z => z.told
  unfold NtTd at HBl HEr HBb HEb
  rw [List.length_map] at HBb HEb
  generalize ntE 0 b r x 0 = E1 at HBl HBb
  generalize ntE 0 b r 0 x = E2 at HEr HEb
  generalize ntL 0 b r x 0 = L1 at HBl HBb
  generalize ntL 0 b r 0 x = L2 at HEr HEb
  clear K A hb hr hx
  go_enter Try.func6, Try.ntmps6
  go_wp2_with fail
  refine (HAw.out _).mono ?_
  rintro e w1 ⟨rfl, hb1⟩
  have B1 := Lib.hid hb1
  clear hb1
  go_wp2_with fail
  refine (HBl.out _).mono ?_
  rintro e w2 hz
  have B2 : Hid (Below w.heap.size w w2) := Lib.hid (up2 B1.out (hz.elim (fun z => z.2.2) fun ⟨_, _, _, _, _, z⟩ => z))
  have HZ := Lib.hid hz
  clear hz
  have HCut : Hid (∀ W, Below w.heap.size w W → Below w.heap.size w W) := Lib.hid fun _ z => z
  obtain ⟨q, rfl, _⟩ | ⟨q, a, c, rfl, hp, _⟩ := HZ.out
  · have q1 : (E1 == 0) = false := by simpa using q
    clear q HZ
    go_wp2_with fail
    refine (HEr.out _).mono ?_
    rintro e w3 (⟨q, rfl, hb3⟩ | ⟨q, a, c, rfl, hp, hb3⟩)
    · have q2 : (E2 != 0) = true := by simpa using q
      have B3 := Lib.hid (up2 B2.out hb3)
      clear q hb3
      go_wp2_with fail
      go_ret
      exact ⟨rfl, B3.out⟩
    · have B3 := Lib.hid (up2 B2.out hb3)
      have P3 := Lib.hid hp
      obtain ⟨f1, f2, f3, f4, f5⟩ := HEb.out q
      have HM2 := Lib.hid f4
      have H5 := Lib.hid f5
      have q2 : (E2 != 0) = false := by simpa using q
      obtain ⟨n2, hn⟩ : ∃ n, n = L2.length := ⟨_, rfl⟩
      rw [← hn] at f3 H5 ⊢
      have HN2 := Lib.hid hn.symm
      clear q hb3 hp f4 f5 hn
      go_wp2_with fail
      refine (H5.out _).mono ?_
      rintro e w4 ⟨a4, c4, rfl, hp, hb4⟩
      have B4 := Lib.hid (up2 B3.out hb4)
      have P34 := Lib.hid (P3.out.up hb4)
      have P4 := Lib.hid hp
      clear hp hb4
      go_wp2_with fail
      go_loopw [113] (fun v wr => ∃ k : Nat, k ≤ n2 ∧ v = .int .i64 (k : Int) ∧ Below w.heap.size w wr ∧ PsA wr a L2 ∧ PsA wr a4 (L2.map negPo)) (fun v _ => n2 - (intOf v).toNat)
      case atStart => exact ⟨0, Nat.zero_le _, rfl, B4.out, P34.out, P4.out⟩
      case round =>
        obtain ⟨k, hk, rfl, hb, hp, hq⟩ := hrel
        have HB := Lib.hid hb
        have HP := Lib.hid hp
        have HQ := Lib.hid hq
        clear hb hp hq
        by_cases hlt : k < n2
        · obtain ⟨p, hp⟩ : ∃ p, L2[k]? = some p := ⟨L2[k]'(by rw [HN2.out]; exact hlt), List.getElem?_eq_getElem _⟩
          have hq : (L2.map negPo)[k]? = some (negPo p) := by rw [List.getElem?_map, hp]; rfl
          obtain ⟨b1, o1, ha, z0, _, z2⟩ := HP.out.at hp
          obtain ⟨b2, o2, ha2, t0, _, t2⟩ := HQ.out.at hq
          subst ha; subst ha2
          have hm := HM2.out p (List.mem_of_getElem? hp)
          have t0 : wr.cell? ⟨b2, o2 + k * 3, none⟩ = some (.int .i64 p.a) := t0
          have t2 : wr.cell? ⟨b2, o2 + k * 3 + 2, none⟩ = some (.int .i64 (-p.m)) := t2
          generalize p.a = pa at z0 t0
          generalize p.m = pm at z2 t2 hm
          have hk0 : (0 : Int) ≤ (k : Int) := by omega
          have hk1 : (k : Int) < (n2 : Int) := by omega
          have e1 : IntKind.i64.wrap ((k : Int) + 1) = (k : Int) + 1 := IntWalk.i64_in _ (by omega)
          have e2 : IntKind.i64.wrap (-pm) = -pm := IntWalk.i64_in _ (by omega)
          have e3 : IntKind.i64.wrap pm = pm := IntWalk.i64_in _ (by omega)
          clear hp hq
          go_wp2_with fail
          have kS0 : Hid (wr.drew.cell? ⟨b1, o1 + k * 3, none⟩ = some (.int .i64 pa) ∧ wr.drew.cell? ⟨b1, o1 + k * 3 + 2, none⟩ = some (.int .i64 pm) ∧ wr.drew.cell? ⟨b2, o2 + k * 3, none⟩ = some (.int .i64 pa) ∧ wr.drew.cell? ⟨b2, o2 + k * 3 + 2, none⟩ = some (.int .i64 (-pm))) := Lib.hid ⟨z0, z2, t0, t2⟩
          go_region_held3 (fun w' => w'.cell? ⟨b1, o1 + k * 3, none⟩ = some (.int .i64 pa) ∧ w'.cell? ⟨b1, o1 + k * 3 + 2, none⟩ = some (.int .i64 pm) ∧ w'.cell? ⟨b2, o2 + k * 3, none⟩ = some (.int .i64 pa) ∧ w'.cell? ⟨b2, o2 + k * 3 + 2, none⟩ = some (.int .i64 (-pm)))
            (first | (go_keep; done) | (with_reducible exact kS0.out))
            (fail)
          all_goals
            go_wp2_with fail
            exact ⟨⟨k + 1, by omega, by go_num, HB.out.drew, HP.out.drew, HQ.out.drew⟩, by simp [intOf]; omega⟩
        · obtain rfl : k = n2 := by omega
          go_wp2_with fail
          go_ret
          exact ⟨rfl, HB.out⟩
  · have P2 := Lib.hid hp
    obtain ⟨f1, f2, f3, f4, f5⟩ := HBb.out q
    have HM1 := Lib.hid f4
    have H5 := Lib.hid f5
    have q1 : (E1 == 0) = true := by simpa using q
    obtain ⟨n1, hn⟩ : ∃ n, n = L1.length := ⟨_, rfl⟩
    rw [← hn] at f3 H5 ⊢
    have HN1 := Lib.hid hn.symm
    clear q hp f4 f5 hn HZ
    go_wp2_with fail
    refine (H5.out _).mono ?_
    rintro e w4 ⟨a4, c4, rfl, hp, hb4⟩
    have B4 := Lib.hid (up2 B2.out hb4)
    have P34 := Lib.hid (P2.out.up hb4)
    have P4 := Lib.hid hp
    clear hp hb4
    go_wp2_with fail
    go_loopw [51] (fun v wr => ∃ k : Nat, k ≤ n1 ∧ v = .int .i64 (k : Int) ∧ Below w.heap.size w wr ∧ PsA wr a L1 ∧ PsA wr a4 (L1.map negPo)) (fun v _ => n1 - (intOf v).toNat)
    case atStart => exact ⟨0, Nat.zero_le _, rfl, B4.out, P34.out, P4.out⟩
    case round =>
      obtain ⟨k, hk, rfl, hb, hp, hq⟩ := hrel
      have HB := Lib.hid hb
      have HP := Lib.hid hp
      have HQ := Lib.hid hq
      clear hb hp hq
      by_cases hlt : k < n1
      · obtain ⟨p, hp⟩ : ∃ p, L1[k]? = some p := ⟨L1[k]'(by rw [HN1.out]; exact hlt), List.getElem?_eq_getElem _⟩
        have hq : (L1.map negPo)[k]? = some (negPo p) := by rw [List.getElem?_map, hp]; rfl
        obtain ⟨b1, o1, ha, z0, _, z2⟩ := HP.out.at hp
        obtain ⟨b2, o2, ha2, t0, _, t2⟩ := HQ.out.at hq
        subst ha; subst ha2
        have hm := HM1.out p (List.mem_of_getElem? hp)
        have t0 : wr.cell? ⟨b2, o2 + k * 3, none⟩ = some (.int .i64 p.a) := t0
        have t2 : wr.cell? ⟨b2, o2 + k * 3 + 2, none⟩ = some (.int .i64 (-p.m)) := t2
        generalize p.a = pa at z0 t0
        generalize p.m = pm at z2 t2 hm
        have hk0 : (0 : Int) ≤ (k : Int) := by omega
        have hk1 : (k : Int) < (n1 : Int) := by omega
        have e1 : IntKind.i64.wrap ((k : Int) + 1) = (k : Int) + 1 := IntWalk.i64_in _ (by omega)
        have e2 : IntKind.i64.wrap (-pm) = -pm := IntWalk.i64_in _ (by omega)
        have e3 : IntKind.i64.wrap pm = pm := IntWalk.i64_in _ (by omega)
        clear hp hq
        go_wp2_with fail
        have kS0 : Hid (wr.drew.cell? ⟨b1, o1 + k * 3, none⟩ = some (.int .i64 pa) ∧ wr.drew.cell? ⟨b1, o1 + k * 3 + 2, none⟩ = some (.int .i64 pm) ∧ wr.drew.cell? ⟨b2, o2 + k * 3, none⟩ = some (.int .i64 pa) ∧ wr.drew.cell? ⟨b2, o2 + k * 3 + 2, none⟩ = some (.int .i64 (-pm))) := Lib.hid ⟨z0, z2, t0, t2⟩
        go_region_held3 (fun w' => w'.cell? ⟨b1, o1 + k * 3, none⟩ = some (.int .i64 pa) ∧ w'.cell? ⟨b1, o1 + k * 3 + 2, none⟩ = some (.int .i64 pm) ∧ w'.cell? ⟨b2, o2 + k * 3, none⟩ = some (.int .i64 pa) ∧ w'.cell? ⟨b2, o2 + k * 3 + 2, none⟩ = some (.int .i64 (-pm)))
          (first | (go_keep; done) | (with_reducible exact kS0.out))
          (fail)
        all_goals
          go_wp2_with fail
          exact ⟨⟨k + 1, by omega, by go_num, HB.out.drew, HP.out.drew, HQ.out.drew⟩, by simp [intOf]; omega⟩
      · obtain rfl : k = n1 := by omega
        clear f1 f2
        go_wp2_with fail
        refine (HEr.out _).mono ?_
        rintro e w3 (⟨q, rfl, hb3⟩ | ⟨q, a, c, rfl, hp, hb3⟩)
        · have q2 : (E2 != 0) = true := by simpa using q
          have B3 := Lib.hid (up2 HB.out hb3)
          clear q hb3
          go_wp2_with fail
          go_ret
          exact ⟨rfl, B3.out⟩
        · have B3 := Lib.hid (up2 HB.out hb3)
          have P3 := Lib.hid hp
          obtain ⟨f1, f2, f3, f4, f5⟩ := HEb.out q
          have HM2 := Lib.hid f4
          have H5 := Lib.hid f5
          have q2 : (E2 != 0) = false := by simpa using q
          obtain ⟨n2, hn⟩ : ∃ n, n = L2.length := ⟨_, rfl⟩
          rw [← hn] at f3 H5 ⊢
          have HN2 := Lib.hid hn.symm
          clear q hb3 hp f4 f5 hn
          go_wp2_with fail
          refine (H5.out _).mono ?_
          rintro e w4 ⟨a4, c4, rfl, hp, hb4⟩
          have B4 := Lib.hid (up2 B3.out hb4)
          have P34 := Lib.hid (P3.out.up hb4)
          have P4 := Lib.hid hp
          clear hp hb4
          go_wp2_with fail
          go_loopw [113] (fun v wr => ∃ k : Nat, k ≤ n2 ∧ v = .int .i64 (k : Int) ∧ Below w.heap.size w wr ∧ PsA wr a L2 ∧ PsA wr a4 (L2.map negPo)) (fun v _ => n2 - (intOf v).toNat)
          case atStart => exact ⟨0, Nat.zero_le _, rfl, B4.out, P34.out, P4.out⟩
          case round =>
            obtain ⟨k, hk, rfl, hb, hp, hq⟩ := hrel
            have HB := Lib.hid hb
            have HP := Lib.hid hp
            have HQ := Lib.hid hq
            clear hb hp hq
            by_cases hlt : k < n2
            · obtain ⟨p, hp⟩ : ∃ p, L2[k]? = some p := ⟨L2[k]'(by rw [HN2.out]; exact hlt), List.getElem?_eq_getElem _⟩
              have hq : (L2.map negPo)[k]? = some (negPo p) := by rw [List.getElem?_map, hp]; rfl
              obtain ⟨b1, o1, ha, z0, _, z2⟩ := HP.out.at hp
              obtain ⟨b2, o2, ha2, t0, _, t2⟩ := HQ.out.at hq
              subst ha; subst ha2
              have hm := HM2.out p (List.mem_of_getElem? hp)
              have t0 : wr.cell? ⟨b2, o2 + k * 3, none⟩ = some (.int .i64 p.a) := t0
              have t2 : wr.cell? ⟨b2, o2 + k * 3 + 2, none⟩ = some (.int .i64 (-p.m)) := t2
              generalize p.a = pa at z0 t0
              generalize p.m = pm at z2 t2 hm
              have hk0 : (0 : Int) ≤ (k : Int) := by omega
              have hk1 : (k : Int) < (n2 : Int) := by omega
              have e1 : IntKind.i64.wrap ((k : Int) + 1) = (k : Int) + 1 := IntWalk.i64_in _ (by omega)
              have e2 : IntKind.i64.wrap (-pm) = -pm := IntWalk.i64_in _ (by omega)
              have e3 : IntKind.i64.wrap pm = pm := IntWalk.i64_in _ (by omega)
              clear hp hq
              go_wp2_with fail
              have kS0 : Hid (wr.drew.cell? ⟨b1, o1 + k * 3, none⟩ = some (.int .i64 pa) ∧ wr.drew.cell? ⟨b1, o1 + k * 3 + 2, none⟩ = some (.int .i64 pm) ∧ wr.drew.cell? ⟨b2, o2 + k * 3, none⟩ = some (.int .i64 pa) ∧ wr.drew.cell? ⟨b2, o2 + k * 3 + 2, none⟩ = some (.int .i64 (-pm))) := Lib.hid ⟨z0, z2, t0, t2⟩
              go_region_held3 (fun w' => w'.cell? ⟨b1, o1 + k * 3, none⟩ = some (.int .i64 pa) ∧ w'.cell? ⟨b1, o1 + k * 3 + 2, none⟩ = some (.int .i64 pm) ∧ w'.cell? ⟨b2, o2 + k * 3, none⟩ = some (.int .i64 pa) ∧ w'.cell? ⟨b2, o2 + k * 3 + 2, none⟩ = some (.int .i64 (-pm)))
                (first | (go_keep; done) | (with_reducible exact kS0.out))
                (fail)
              all_goals
                go_wp2_with fail
                exact ⟨⟨k + 1, by omega, by go_num, HB.out.drew, HP.out.drew, HQ.out.drew⟩, by simp [intOf]; omega⟩
            · obtain rfl : k = n2 := by omega
              go_wp2_with fail
              go_ret
              exact ⟨rfl, HB.out⟩
end Go.Proofs.Ytiaocahcdbikhaa
