/- The law PortionSteps, over a list of amounts. -/
import Derived.Test.YtiiamiaebhkhaaaNearCore
namespace Go.Proofs.Ytiiamiaebhkhaaa
open Go.RowKit
variable {total whole more : Int} {f : Nat → Int} {n : Nat}

theorem stepE_ok (h : stepE f whole n = 0) : n ≤ 64 ∧ 1 ≤ whole ∧ RiseTo f whole n := by
  unfold stepE at h
  by_cases h1 : 64 < n
  · rw [if_pos h1] at h; omega
  · rw [if_neg h1] at h
    by_cases h2 : whole < 1 ∨ ¬ RiseTo f whole n
    · rw [if_pos h2] at h; omega
    · refine ⟨by omega, by omega, ?_⟩
      apply Classical.byContradiction; intro q; exact h2 (.inr q)
theorem stepE_of (h1 : n ≤ 64) (h2 : 1 ≤ whole) (h3 : RiseTo f whole n) : stepE f whole n = 0 := by
  unfold stepE
  rw [if_neg (by omega), if_neg (by rintro (q | q); omega; exact q h3)]
/-- a mark put between -/
def withV (f : Nat → Int) (k : Nat) (more : Int) : Nat → Int := fun t => if t < k then f t else if t = k then more else f (t - 1)
theorem RiseTo.le {f : Nat → Int} (h : RiseTo f whole n) {s t : Nat} (hst : s ≤ t) (ht : t < n) : f s ≤ f t := by
  induction t with
  | zero => have : s = 0 := by omega
            subst this; exact Int.le_refl _
  | succ t ih =>
    by_cases e : s = t + 1
    · subst e; exact Int.le_refl _
    · have := (h (t + 1) ht).1
      rw [if_neg (by omega), Nat.add_sub_cancel] at this
      have := ih (by omega) (by omega); omega
theorem with_rise (h : RiseTo f whole n) {k : Nat} (hk : k ≤ n) (m0 : 0 ≤ more) (m1 : more ≤ whole) (lo : ∀ t, t < k → f t ≤ more) (hi : k < n → more ≤ f k) : RiseTo (withV f k more) whole (n + 1) := by
  intro t ht
  unfold withV
  by_cases a : t < k
  · have b := h t (by omega)
    rw [if_pos a]
    by_cases z : t = 0
    · rw [if_pos z] at b ⊢; exact b
    · rw [if_neg z] at b ⊢; rw [if_pos (by omega)]; exact b
  · rw [if_neg a]
    by_cases c : t = k
    · rw [if_pos c]
      by_cases z : t = 0
      · rw [if_pos z]; exact ⟨m0, m1⟩
      · rw [if_neg z, if_pos (by omega)]; exact ⟨lo _ (by omega), m1⟩
    · rw [if_neg c, if_neg (show ¬ t = 0 by omega), if_neg (show ¬ t - 1 < k by omega)]
      have b := (h (t - 1) (by omega)).2
      by_cases d : t - 1 = k
      · rw [if_pos d, d]; exact ⟨hi (by omega), by rw [d] at b; exact b⟩
      · rw [if_neg d]; exact ⟨h.le (by omega) (by omega), b⟩
theorem withP_lo {k j : Nat} (hj : j ≤ k) : stepP total (withV f k more) whole j = stepP total f whole j := by
  unfold stepP withV
  by_cases z : j = 0
  · rw [if_pos z, if_pos z]
  · rw [if_neg z, if_neg z, if_pos (by omega)]
theorem withP_hi {k j : Nat} (hj : k + 2 ≤ j) : stepP total (withV f k more) whole j = stepP total f whole (j - 1) := by
  unfold stepP withV
  rw [if_neg (show ¬ j = 0 by omega), if_neg (show ¬ j - 1 = 0 by omega), if_neg (show ¬ j - 1 < k by omega), if_neg (show ¬ j - 1 = k by omega)]
theorem withV_lo {k t : Nat} (ht : t < k) : stepV total (withV f k more) whole t = stepV total f whole t := by
  unfold stepV; rw [withP_lo (by omega), withP_lo (by omega)]
theorem withV_two (k : Nat) : stepV total (withV f k more) whole k + stepV total (withV f k more) whole (k + 1) = stepV total f whole k := by
  unfold stepV; rw [withP_lo (Nat.le_refl k), withP_hi (j := k + 1 + 1) (by omega), Nat.add_sub_cancel]; omega
theorem withV_hi {k t : Nat} (ht : k + 2 ≤ t) : stepV total (withV f k more) whole t = stepV total f whole (t - 1) := by
  unfold stepV; rw [withP_hi (by omega), withP_hi ht, Nat.add_sub_cancel, show t - 1 + 1 = t by omega]

/-- the marks told so far -/
def cellsTo (f : Nat → Int) (k : Nat) : List Value := (List.range k).map fun t => Value.int .i64 (f t)
theorem cellsTo_step (f : Nat → Int) (k : Nat) : cellsTo f (k + 1) = cellsTo f k ++ [.int .i64 (f k)] := by
  unfold cellsTo; rw [List.range_succ, List.map_append]; rfl
theorem cellsTo_get (f : Nat → Int) {k j : Nat} (h : j < k) : (cellsTo f k)[j]? = some (.int .i64 (f j)) := by
  unfold cellsTo; rw [List.getElem?_map, List.getElem?_range h]; rfl
theorem cellsTo_len (f : Nat → Int) (k : Nat) : (cellsTo f k).length = k := by unfold cellsTo; simp

theorem ownsRow_lt {W : World} {B : Nat} {e : TypeId} {sz : Nat} {v : Value} {n : Nat} {xs : List Value} (h : W.ownsRow B e sz v n xs) : ∀ k, v.ownBlock = some k → B ≤ k := by
  intro k hk
  obtain ⟨_, ⟨rfl, _⟩ | ⟨g, cap, cur, rfl, hg, _⟩⟩ := h
  · simp [Value.ownBlock] at hk
  · simp [Value.ownBlock] at hk; omega
theorem own_grow {W0 wr w1 : World} {B : Nat} {e : TypeId} {sz : Nat} {v : Value} {n : Nat} {xs : List Value} {o : Obj} (hown : wr.ownsRow B e sz v n xs) (hb : Below B W0 wr) (hB : B ≤ wr.heap.size) (h2 : (wr.alloc o).grownBy w1 v.ownBlock) : Below B W0 w1 :=
  (hb.alloc hB o).grown h2 (by simp; omega) (ownsRow_lt hown)
theorem own_grow' {W0 wr w1 : World} {B : Nat} {e : TypeId} {sz : Nat} {v : Value} {n : Nat} {xs : List Value} (hown : wr.ownsRow B e sz v n xs) (hb : Below B W0 wr) (hB : B ≤ wr.heap.size) (h2 : wr.grownBy w1 v.ownBlock) : Below B W0 w1 :=
  hb.grown h2 hB (ownsRow_lt hown)

theorem own_arg {W : World} {B m : Nat} {e : TypeId} {v : Value} {h : Nat → Int} (hm : 0 < m) (o : W.ownsRow B e 1 v m (cellsTo h m)) : ∃ g c, v = .slice (some ⟨g, 0, none⟩) m c ∧ Row W g 0 m h := by
  have o' := o
  obtain ⟨_, ⟨_, q⟩ | ⟨g, c, cur, rfl, hg, _⟩⟩ := o
  · omega
  · refine ⟨g, c, rfl, fun k hk => ?_⟩
    rw [Nat.zero_add, o'.cellAt k (by omega), cellsTo_get h hk]
theorem with_cells (f : Nat → Int) {j k : Nat} (more : Int) (hj : j ≤ k) : cellsTo f j ++ [.int .i64 more] ++ cellsTo (fun t => f (j + t)) (k - j) = cellsTo (withV f j more) (k + 1) := by
  apply List.ext_getElem?
  intro i
  by_cases h1 : i < j
  · rw [List.append_assoc, List.getElem?_append_left (by rw [cellsTo_len]; exact h1), cellsTo_get f h1, cellsTo_get _ (by omega)]
    unfold withV; rw [if_pos h1]
  · by_cases h2 : i = j
    · subst h2
      rw [List.getElem?_append_left (by rw [List.length_append, cellsTo_len]; simp), List.getElem?_append_right (by rw [cellsTo_len]; omega), cellsTo_len, Nat.sub_self, cellsTo_get _ (by omega)]
      unfold withV; rw [if_neg (by omega), if_pos rfl]; rfl
    · rw [List.getElem?_append_right (by rw [List.length_append, cellsTo_len]; simp; omega)]
      have e : (cellsTo f j ++ [Value.int .i64 more]).length = j + 1 := by rw [List.length_append, cellsTo_len]; rfl
      rw [e]
      by_cases h3 : i < k + 1
      · rw [cellsTo_get _ (by omega), cellsTo_get _ h3]
        unfold withV; rw [if_neg h1, if_neg h2, show j + (i - (j + 1)) = i - 1 by omega]
      · rw [List.getElem?_eq_none (by rw [cellsTo_len]; omega), List.getElem?_eq_none (by rw [cellsTo_len]; omega)]
theorem with_end (f : Nat → Int) (more : Int) (j : Nat) : cellsTo f j ++ [.int .i64 more] = cellsTo (withV f j more) (j + 1) := by
  have h := with_cells f more (Nat.le_refl j)
  rw [Nat.sub_self, show cellsTo (fun t => f (j + t)) 0 = [] from rfl, List.append_nil] at h
  exact h
theorem cells_one (f : Nat → Int) (k : Nat) : ∀ u ∈ cellsTo f k, u.oneCell' = true := by
  intro u hu; unfold cellsTo at hu; rw [List.mem_map] at hu; obtain ⟨t, _, rfl⟩ := hu; rfl
theorem news_row {W : World} {b off k j : Nat} {f : Nat → Int} (h : Row W b off k f) : ∀ (i : Nat) (u : Value), (cellsTo (fun t => f (j + t)) (k - j))[i]? = some u → W.cell? ((⟨b, off + j, none⟩ : Addr).add i) = some u := by
  intro i u hu
  by_cases hi : i < k - j
  · rw [cellsTo_get _ hi] at hu
    have := h (j + i) (by omega)
    have e : (⟨b, off + j, none⟩ : Addr).add i = ⟨b, off + (j + i), none⟩ := by
      unfold Addr.add
      by_cases z : i = 0
      · subst z; simp
      · simp [z, Nat.add_assoc]
    rw [e, this]; exact hu
  · rw [List.getElem?_eq_none (by rw [cellsTo_len]; omega)] at hu; cases hu
theorem with_steps (total whole more : Int) (f : Nat → Int) (g k j c : Nat) (W : World) (t1 : -9223372036854775808 ≤ total) (t2 : total ≤ 9223372036854775807) (w2 : whole ≤ 9223372036854775807) (hw : 1 ≤ whole) (hr : RiseTo f whole k) (hj : j ≤ k)
    (m0 : 0 ≤ more) (m1 : more ≤ whole) (lo : ∀ t, t < j → f t ≤ more) (hi : j < k → more ≤ f j) (h : Row W g 0 (k + 1) (withV f j more)) :
    Calls Try.prog 10 #[.int .i64 total, .slice (some ⟨g, 0, none⟩) (k + 1) c, .int .i64 whole] W (Listed W (if 64 < k + 1 then 4 else 0) (k + 1) (stepV total (withV f j more) whole)) := by
  have e : stepE (withV f j more) whole (k + 1) = if 64 < k + 1 then 4 else 0 := by
    by_cases q : 64 < k + 1
    · rw [if_pos q]; unfold stepE; rw [if_pos q]
    · rw [if_neg q]; exact stepE_of (by omega) hw (with_rise hr hj m0 m1 lo hi)
  rw [← e]
  exact steps_any total (withV f j more) (some ⟨g, 0, none⟩) (k + 1) c whole W t1 t2 w2 (arg_of h)

theorem same_n (f g : Nat → Int) (a b : Option Addr) (n ca cb : Nat) (W : World) (hn : n ≤ 1000) (hA : Arg W a n f) (hB : Arg W b n g) (h : ∀ t, t < n → f t = g t) (q : Nat) :
    Calls Try.prog 12 #[.slice a n ca, .slice b n cb] (W.drewN q) fun e w'' => e = .returned (.bool true) ∧ ∃ m, w'' = W.drewN m :=
  (same_quiet f g a b n ca cb (W.drewN q) hn hA hB h).mono fun e w' ⟨h1, m, h2⟩ => ⟨h1, q + m, by rw [h2]; simp [World.drewN, Nat.add_assoc]⟩
theorem ints_arg {W : World} {p n : Nat} {v : Nat → Int} (h : Ints W p n v) {m : Nat} (d : Nat) (hm : m + d ≤ n) : Arg W (some ⟨p, d, none⟩) m (fun t => v (d + t)) :=
  fun _ => ⟨p, d, rfl, fun k hk => (h (d + k) (by omega)).1⟩

set_option maxRecDepth 1000000 in
theorem law_long6 (total : Int) (a : Option Addr) (n cap : Nat) (whole more : Int) (w : World) (h : 70 < n) :
    Calls Try.prog 6 #[.int .i64 total, .slice a n cap, .int .i64 whole, .int .i64 more] w fun e w' => e = .returned (.bool true) ∧ Below w.heap.size w w' := by
  have hz : (70 : Int) < (n : Int) := by omega
  go_enter Try.func6, Try.ntmps6
  go_wp2_with fail
  refine (awake2 _).mono ?_
  rintro e w1 ⟨rfl, hb⟩
  go_wp2_with fail
  go_ret
  exact ⟨rfl, hb⟩

/-- what the law holds while it gathers marks -/
structure StAt (w : World) (a : Option Addr) (p n : Nat) (f v : Nat → Int) (W : World) : Prop where
  bel : Below w.heap.size w W
  ints : Ints W p n v
  arg : Arg W a n f
theorem StAt.up {w W W' : World} {a : Option Addr} {p n : Nat} {f v : Nat → Int} (h : StAt w a p n f v W) (hb : Below W.heap.size W W') : StAt w a p n f v W' :=
  ⟨up2 h.bel hb, ints_up h.ints hb, fun q => by obtain ⟨b, off, e, r⟩ := h.arg q; exact ⟨b, off, e, r.below hb⟩⟩

set_option maxRecDepth 1000000 in
set_option maxHeartbeats 40000000 in
theorem steps_law (total : Int) (f : Nat → Int) (a : Option Addr) (n cap : Nat) (whole more : Int) (w : World) (hf : Amounts f) (ht : Am total) (hwh : Am whole) (_hmo : Am more) (hn : n ≤ 70) (hA : Arg w a n f) (hcap : n ≤ cap) :
    Calls Try.prog 6 #[.int .i64 total, .slice a n cap, .int .i64 whole, .int .i64 more] w fun e w' => e = .returned (.bool true) ∧ Below w.heap.size w w' := by
  obtain ⟨i0, hi, hz0, hz1, hz2⟩ := info_parts Try.infoI64
  obtain ⟨t1, t2⟩ := ht
  have HA := Lib.hid hA
  have hz : ¬ (70 : Int) < (n : Int) := by omega
  have HF := Lib.hid hf
  have HWh := Lib.hid hwh
  have HCap := Lib.hid hcap
  clear hA hf hwh hcap
  go_enter Try.func6, Try.ntmps6
  go_wp2_with fail
  refine (awake2 _).mono ?_
  rintro e w1 ⟨rfl, hb⟩
  have HB1 := Lib.hid hb
  have HA1 : Hid (Arg w1 a n f) := fun q => by obtain ⟨b, off, e, r⟩ := HA.out q; exact ⟨b, off, e, r.below HB1.out⟩
  clear hb HA
  go_wp2_with fail
  refine (steps_any total f a n cap whole w1 t1 t2 HWh.out.2 HA1.out).mono ?_
  rintro e w2 ⟨hb, q⟩
  have HB2 := Lib.hid (up2 HB1.out hb)
  have HA2 : Hid (Arg w2 a n f) := fun q => by obtain ⟨b, off, e, r⟩ := HA1.out q; exact ⟨b, off, e, r.below hb⟩
  clear HB1 HA1 hb
  rcases q with ⟨he, rfl⟩ | ⟨he, p, rfl, hp, hint⟩
  · obtain ⟨er, her⟩ : ∃ er, er = stepE f whole n := ⟨_, rfl⟩
    rw [← her] at he ⊢
    have hez : (er != 0) = true := by simp [he]
    clear her he
    go_wp2_with fail
    go_ret
    exact ⟨rfl, HB2.out⟩
  · obtain ⟨hn64, hw1, hrise⟩ := stepE_ok he
    have HRi := Lib.hid hrise
    have HVi := Lib.hid (fun k (hk : k < n) => stepV_in (total := total) hw1 hrise hk)
    have HPn := Lib.hid (stepP_in (total := total) hw1 hrise (Nat.le_refl n))
    have hsum := sum_some (upTo (stepV total f whole) n) (fun k => by
      unfold upTo
      by_cases q : k < n
      · rw [if_pos q]; exact am_within (stepV_in (total := total) hw1 hrise q) t1 t2
      · rw [if_neg q]; omega) p 0 n n w2 (by omega) (fun k hk => by rw [Nat.zero_add, upTo, if_pos hk]; exact (hint k hk).1)
    rw [sumTo_eq, sumN_congr (g := stepV total f whole) (fun k hk => by rw [upTo, if_pos hk]), stepV_sum, (tell_in (am_within HPn.out t1 t2).1 (am_within HPn.out t1 t2).2).1, (tell_in (am_within HPn.out t1 t2).1 (am_within HPn.out t1 t2).2).2] at hsum
    have HSum := Lib.hid hsum
    have HI := Lib.hid hint
    clear hint hsum he hp hrise
    obtain ⟨v, hv⟩ : ∃ v, v = stepV total f whole := ⟨_, rfl⟩
    obtain ⟨pn, hpn⟩ : ∃ pn, pn = stepP total f whole n := ⟨_, rfl⟩
    rw [← hv] at HI HVi
    rw [← hpn] at HSum
    have HVE := Lib.hid hv
    have HPE : Hid (0 < n → f (n - 1) = whole → pn = total) := fun q1 q2 => by
      rw [hpn]; unfold stepP; rw [if_neg (by omega), q2]; exact Int.mul_ediv_cancel _ (by omega)
    clear hv hpn HPn
    go_wp2_with fail
    refine HSum.out.mono ?_
    rintro e w3 ⟨rfl, hb⟩
    have HN : Hid (StAt w a p n f v w3) := ⟨up2 HB2.out hb, ints_up HI.out hb, fun q => by obtain ⟨b, off, e, r⟩ := HA2.out q; exact ⟨b, off, e, r.below hb⟩⟩
    clear hb HSum HB2 HA2 HI
    go_upto_region 9 with fail
    go_cut [64] (fun s64 wx => s64 = .bool false ∧ wx = w3)
    case first =>
      by_cases h0 : n = 0
      · subst h0
        go_wp2_with fail
        go_meet
        exact ⟨rfl, rfl⟩
      · obtain ⟨b, off, rfl, hr⟩ := HN.out.arg (by omega)
        have c1 := hr (n - 1) (by omega)
        have i1 : IntKind.i64.wrap ((n : Int) - 1) = ((n - 1 : Nat) : Int) := by rw [IntKind.wrap_i64]; omega
        obtain ⟨m, hm⟩ : ∃ m, m = n - 1 := ⟨_, rfl⟩
        rw [← hm] at c1 i1
        have i2 : (0 : Int) < (n : Int) := by omega
        have i3 : (m : Int) < (n : Int) := by omega
        by_cases ex : f m = whole
        · have exz : (f m == whole) = true := by simp [ex]
          have e2 : pn = total := HPE.out (by omega) (by rw [← hm]; exact ex)
          subst e2
          clear hr hm ex
          go_wp2_with fail
          go_meet
          exact ⟨rfl, rfl⟩
        · have exz : (f m == whole) = false := by simp [ex]
          clear hr hm ex
          go_wp2_with fail
          go_meet
          exact ⟨rfl, rfl⟩
    case rest =>
      obtain ⟨rfl, rfl⟩ := hcut
      go_wp2_with fail
      go_loop [67] (fun vi => ∃ k : Nat, k ≤ n ∧ vi = .int .i64 k) (fun vi => n - (intOf vi).toNat)
      case atStart => exact ⟨0, Nat.zero_le _, rfl⟩
      case round =>
        obtain ⟨k, hk, rfl⟩ := hrel
        by_cases hlt : k < n
        · have c1 := (HN.out.ints k hlt).1
          by_cases s : 0 ≤ total
          · have g1 : ¬ v k < 0 := by have := (HVi.out k hlt).1 s; omega
            go_wp2_with fail
            go_round
            case rel => exact ⟨k + 1, by omega, by go_num⟩
            case measure => simp [intOf]; omega
          · go_wp2_with fail
            go_round
            case rel => exact ⟨k + 1, by omega, by go_num⟩
            case measure => simp [intOf]; omega
        · have hke : k = n := by omega
          subst hke
          clear hlt
          by_cases m0 : more < 0
          · go_wp2_with fail
            go_ret
            exact ⟨rfl, HN.out.bel⟩
          · have m0z : decide (more < 0) = false := by simp; omega
            by_cases m1 : whole < more
            · have m1z : decide (more > whole) = true := by simp; omega
              go_wp2_with fail
              go_ret
              exact ⟨rfl, HN.out.bel⟩
            · have m1z : decide (more > whole) = false := by simp; omega
              by_cases h0 : k = 0
              · subst h0
                go_wp2_with fail
                go_ret
                exact ⟨rfl, HN.out.bel⟩
              · have h0z : ((k : Int) == 0) = false := by simp; omega
                go_wp2_with fail
                obtain ⟨b, off, ha, hrow⟩ := HN.out.arg (by omega)
                subst ha
                have HRow := Lib.hid hrow
                have M0 : Hid (0 ≤ more) := by show 0 ≤ more; simp at m0z; omega
                have M1 : Hid (more ≤ whole) := by show more ≤ whole; simp at m1z; omega
                clear hrow h0 h0z m0z m1z
                go_loopw [15, 16] (fun vw va wr => ∃ j : Nat, j ≤ k ∧ va = .int .i64 j ∧ wr.ownsRow wc.heap.size 2 1 vw j (cellsTo f j) ∧ Below wc.heap.size wc wr ∧ Hid (∀ t, t < j → f t ≤ more)) (fun _ va _ => k - (intOf va).toNat)
                case atStart => exact ⟨0, Nat.zero_le _, rfl, ⟨by simp [cellsTo], .inl ⟨rfl, rfl⟩⟩, Below.refl _ _, (fun t ht => by omega)⟩
                case round =>
                  obtain ⟨j, hj, rfl, hown, hB, HL⟩ := hrel
                  have HB := Lib.hid hB
                  have hBs := hB.size
                  clear hB
                  by_cases hlt : j < k
                  · have c1 : wr.cell? ⟨b, off + j, none⟩ = some (.int .i64 (f j)) := kcell HB.out (HRow.out j hlt)
                    have hltz : (j : Int) < (k : Int) := by omega
                    by_cases hm : f j ≤ more
                    · have HM := Lib.hid hm
                      have HST : Hid (∀ w1 : World, (wr.alloc (.cells #[.int .i64 (f j)] 2)).grownBy w1 u15.ownBlock → Below wc.heap.size wc w1) := fun w1 g2 => own_grow hown HB.out hBs g2
                      go_wp2_with (first | (at_builtin; refine wpList_append_own _ rfl _ _ 22 rfl wc.heap.size 2 i0 (.int .i64 0) 1 8 Try.underlying22 hi hz0 hz1 hz2 rfl (by decide) _ _ _ rfl (World.ownsRow.alloc hown _) ⟨wr.heap.size, 0, none⟩ 1 1 [.int .i64 (f j)] rfl rfl (one_news _ _ _) (one_cell _) ?c3 ?c4 ?c5 ?_))
                      case c3 => unfold maxLen; omega
                      case c4 => omega
                      case c5 => simp; omega
                      intro v' w1' hown' hgrow _
                      have HB' := Lib.hid (HST.out w1' hgrow)
                      have HO' := Lib.hid hown'
                      clear hown' hgrow hown HST
                      go_wp2_with fail
                      go_roundw
                      case rel =>
                        refine ⟨j + 1, by omega, by go_num, by rw [cellsTo_step]; exact HO'.out, HB'.out, (fun t ht => ?_)⟩
                        by_cases e : t = j
                        · rw [e]; exact HM.out
                        · exact HL.out t (by omega)
                      case measure => simp [intOf]; omega
                    · have HM : Hid (more < f j) := by show more < f j; omega
                      have HST : Hid (∀ w1 : World, (wr.alloc (.cells #[.int .i64 more] 2)).grownBy w1 u15.ownBlock → Below wc.heap.size wc w1) := fun w1 g2 => own_grow hown HB.out hBs g2
                      go_wp2_with (first | (at_builtin; refine wpList_append_own _ rfl _ _ 22 rfl wc.heap.size 2 i0 (.int .i64 0) 1 8 Try.underlying22 hi hz0 hz1 hz2 rfl (by decide) _ _ _ rfl (World.ownsRow.alloc hown _) ⟨wr.heap.size, 0, none⟩ 1 1 [.int .i64 more] rfl rfl (one_news _ _ _) (one_cell _) ?c3 ?c4 ?c5 ?_))
                      case c3 => unfold maxLen; omega
                      case c4 => omega
                      case c5 => first | omega | (simp; omega)
                      intro v1 w4 hown1 hgrow _
                      have HB4 := Lib.hid (HST.out w4 hgrow)
                      have hB4s := HB4.out.size
                      clear hgrow hown HST
                      have hc1 : ¬ cap = j := by have := HCap.out; omega
                      have hc2 : (cap == j) = false := by simp [hc1]
                      have HRow4 : Hid (Row w4 b off k f) := fun t ht => kcell HB4.out (HRow.out t ht)
                      go_wp2_with (first | (at_builtin; refine wpList_append_own _ rfl _ _ 22 rfl wc.heap.size 2 i0 (.int .i64 0) 1 8 Try.underlying22 hi hz0 hz1 hz2 rfl (by decide) _ _ _ rfl hown1 ⟨b, off + j, none⟩ (k - j) (cap - j) (cellsTo (fun t => f (j + t)) (k - j)) rfl ?d1 (news_row HRow4.out) (cells_one _ _) ?c3 ?c4 ?c5 ?_))
                      case d1 => rw [cellsTo_len]; omega
                      case c3 => unfold maxLen; omega
                      case c4 => omega
                      case c5 => first | omega | (simp; omega)
                      intro v2 w5 hown2 hgrow _
                      have HB5 := Lib.hid (own_grow' hown1 HB4.out hB4s hgrow)
                      rw [List.append_cons, with_cells f more hj, show j + 1 + (k - j) = k + 1 by omega] at hown2
                      obtain ⟨g, c2, rfl, hr2⟩ := own_arg (by omega) hown2
                      have HR5 := Lib.hid hr2
                      clear hown1 hown2 hgrow hr2 HB4 HRow4 hB4s
                      have HNs : Hid (Ints w5 p k v) := ints_up HN.out.ints HB5.out
                      have HBw : Hid (Below w.heap.size w w5) := up2 HN.out.bel HB5.out
                      clear HB5 HB HRow HN
                      go_wp2_with fail
                      refine (with_steps total whole more f g k j c2 w5 t1 t2 HWh.out.2 hw1 HRi.out hj M0.out M1.out HL.out (fun _ => Int.le_of_lt HM.out) HR5.out).mono ?_
                      rintro e w6 ⟨hb6, hq⟩
                      have HB6 := Lib.hid (up2 HBw.out hb6)
                      have HN6 := Lib.hid (ints_up HNs.out hb6)
                      clear hb6 HBw HNs HR5
                      by_cases h65 : 64 < k + 1
                      · rw [if_pos h65] at hq
                        rcases hq with ⟨_, rfl⟩ | ⟨q, _⟩
                        · have hz65 : (64 : Int) < (k : Int) + 1 := by omega
                          go_wp2_with fail
                          go_ret
                          exact ⟨rfl, HB6.out⟩
                        · exact absurd q (by decide)
                      · rw [if_neg h65] at hq
                        rcases hq with ⟨q, _⟩ | ⟨_, q6, rfl, _, hi6⟩
                        · exact absurd rfl q
                        · have HI6 := Lib.hid hi6
                          clear hi6
                          have hjk : ((j : Int) == (k : Int)) = false := by simp; omega
                          have HLo : Hid (∀ t, t < j → stepV total (withV f j more) whole t = v t) := fun t ht => by rw [HVE.out]; exact withV_lo ht
                          have HHi : Hid (∀ t, j + 2 ≤ t → stepV total (withV f j more) whole t = v (t - 1)) := fun t ht => by rw [HVE.out]; exact withV_hi ht
                          have HTw : Hid (stepV total (withV f j more) whole j + stepV total (withV f j more) whole (j + 1) = v j) := by rw [HVE.out]; exact withV_two j
                          have HAw : Hid (∀ t, t < k + 1 → Am (stepV total (withV f j more) whole t)) := fun t ht => am_within (stepV_in (total := total) hw1 (with_rise HRi.out hj M0.out M1.out HL.out (fun _ => Int.le_of_lt HM.out)) ht) t1 t2
                          have HAv := Lib.hid (am_within (HVi.out j hlt) t1 t2)
                          obtain ⟨u, hu⟩ : ∃ u, u = stepV total (withV f j more) whole := ⟨_, rfl⟩
                          rw [← hu] at HI6 HLo HHi HTw HAw
                          clear hu HVE HL HM
                          have c1 := (HI6.out j (by omega)).1
                          have c2' := (HI6.out (j + 1) (by omega)).1
                          have w1j : IntKind.i64.wrap ((j : Int) + 1) = (j : Int) + 1 := by rw [IntKind.wrap_i64]; omega
                          have w2j : IntKind.i64.wrap ((j : Int) + 2) = (j : Int) + 2 := by rw [IntKind.wrap_i64]; omega
                          have j1 : (j : Int) + 1 < (k : Int) + 1 := by omega
                          have j2 : (j : Int) < (k : Int) + 1 := by omega
                          have j3 : ((j : Int) + 1).toNat = j + 1 := by omega
                          have j4 : (0 : Int) ≤ (j : Int) + 1 := by omega
                          have HAdd : Hid (∀ W, Calls Try.prog 16 #[.int .i64 (u j), .int .i64 (u (j + 1))] W fun e w' => e = .returned (.tuple #[.int .i64 (v j), .int .i64 0]) ∧ Below W.heap.size W w') := fun W => by
                            have q := add_any (u j) (u (j + 1)) W (HAw.out j (by omega)).1 (HAw.out j (by omega)).2 (HAw.out (j + 1) (by omega)).1 (HAw.out (j + 1) (by omega)).2
                            rw [HTw.out, (tell_in HAv.out.1 HAv.out.2).1, (tell_in HAv.out.1 HAv.out.2).2] at q
                            exact q
                          go_upto_region 31 with fail
                          go_cut [19, 20] (fun s19 s20 wx => s19 = .int .i64 (v j) ∧ s20 = .int .i64 0 ∧ Below w6.heap.size w6 wx)
                          case first =>
                            go_region_with (first | (go_at_call 16; ((with_reducible refine (HAdd.out _).mono ?_); rintro e w7 ⟨rfl, hb7⟩)))
                            all_goals
                              go_wp2_with fail
                              go_meet
                              exact ⟨rfl, rfl, (Below.refl _ _).drew.trans hb7⟩
                          case rest =>
                            obtain ⟨rfl, rfl, hb7⟩ := hcut
                            have HB7 := Lib.hid (up2 HB6.out hb7)
                            have HN7 := Lib.hid (ints_up HN6.out hb7)
                            have HI7 := Lib.hid (ints_up HI6.out hb7)
                            clear hb7 HB6 HN6 HI6 c1 c2' HAdd HTw HAw HAv
                            have c1 := (HN7.out j hlt).1
                            have S1 := Lib.hid (same_n u v (some ⟨q6, 0, none⟩) (some ⟨p, 0, none⟩) j (k + 1) k wc (by omega) (fun _ => ⟨q6, 0, rfl, fun t ht => by rw [Nat.zero_add]; exact (HI7.out t (by omega)).1⟩) (fun _ => ⟨p, 0, rfl, fun t ht => by rw [Nat.zero_add]; exact (HN7.out t (by omega)).1⟩) (fun t ht => HLo.out t ht))
                            have j5 : ((j : Int) + 2).toNat = j + 2 := by omega
                            have j6 : (0 : Int) ≤ (j : Int) + 2 := by omega
                            have j7 : (j : Int) + 2 ≤ (k : Int) + 1 := by omega
                            have j8 : (j : Int) + 1 ≤ (k : Int) := by omega
                            have j9 : (j : Int) ≤ (k : Int) := by omega
                            have j10 : (j : Int) ≤ (k : Int) + 1 := by omega
                            by_cases hend : k = j + 1
                            · subst hend
                              have S2 := Lib.hid (same_n u v (some ⟨q6, 0, none⟩) (some ⟨p, 0, none⟩) 0 0 0 wc (by omega) (fun q => by omega) (fun q => by omega) (fun t ht => by omega))
                              go_wp2_with fail
                              go_quiet (first | (go_at_call 12; with_reducible exact S1.out _) | (go_at_call 12; with_reducible exact S2.out _))
                              go_wp2_with fail
                              go_ret
                              exact ⟨rfl, up2 HB7.out (drew_below _ _)⟩
                            · have S2 := Lib.hid (same_n (fun t => u (j + 2 + t)) (fun t => v (j + 1 + t)) (some ⟨q6, j + 2, none⟩) (some ⟨p, j + 1, none⟩) (k - (j + 1)) (k - (j + 1)) (k - (j + 1)) wc (by omega) (ints_arg HI7.out (j + 2) (by omega)) (ints_arg HN7.out (j + 1) (by omega)) (fun t ht => by show u (j + 2 + t) = v (j + 1 + t); rw [HHi.out (j + 2 + t) (by omega)]; congr 1; omega))
                              have n1 : ¬ k = j + 1 := hend
                              have n2 : (k == j + 1) = false := by simp [hend]
                              have n3 : ¬ k + 1 = j + 2 := by omega
                              have n4 : (k + 1 == j + 2) = false := by simp; omega
                              have n5 : k + 1 - (j + 2) = k - (j + 1) := by omega
                              go_wp2_with fail
                              go_quiet (first | (go_at_call 12; with_reducible exact S1.out _) | (go_at_call 12; with_reducible exact S2.out _))
                              go_wp2_with fail
                              go_ret
                              exact ⟨rfl, up2 HB7.out (drew_below _ _)⟩
                  · have hje : j = k := by omega
                    subst hje
                    have hltz : ¬ (j : Int) < (j : Int) := by omega
                    have HST : Hid (∀ w1 : World, (wr.alloc (.cells #[.int .i64 more] 2)).grownBy w1 u15.ownBlock → Below wc.heap.size wc w1) := fun w1 g2 => own_grow hown HB.out hBs g2
                    go_wp2_with (first | (at_builtin; refine wpList_append_own _ rfl _ _ 22 rfl wc.heap.size 2 i0 (.int .i64 0) 1 8 Try.underlying22 hi hz0 hz1 hz2 rfl (by decide) _ _ _ rfl (World.ownsRow.alloc hown _) ⟨wr.heap.size, 0, none⟩ 1 1 [.int .i64 more] rfl rfl (one_news _ _ _) (one_cell _) ?c3 ?c4 ?c5 ?_))
                    case c3 => unfold maxLen; omega
                    case c4 => omega
                    case c5 => first | omega | (simp; omega)
                    intro v1 w4 hown1 hgrow _
                    have HB4 := Lib.hid (HST.out w4 hgrow)
                    have hB4s := HB4.out.size
                    clear hgrow hown HST
                    by_cases hcj : cap = j
                    · have hcj' := hcj.symm
                      subst hcj'
                      go_wp2_with (first | (at_builtin; refine wpList_append_own _ rfl _ _ 22 rfl wc.heap.size 2 i0 (.int .i64 0) 1 8 Try.underlying22 hi hz0 hz1 hz2 rfl (by decide) _ _ _ rfl hown1 ⟨b, off, none⟩ 0 0 [] rfl ?d1 (fun i u hu => by simp at hu) (fun u hu => by simp at hu) ?c3 ?c4 ?c5 ?_))
                      try case hx => simp [Act.eval]
                      try case d1 => simp
                      case c3 => unfold maxLen; omega
                      case c4 => omega
                      try case c5 => omega
                      intro v2 w5 hown2 hgrow _
                      have HB5 := Lib.hid (own_grow' hown1 HB4.out hB4s hgrow)
                      try simp only [Nat.sub_self, Nat.add_zero, List.append_nil] at hown2
                      rw [with_end f more j] at hown2
                      obtain ⟨g, c2, rfl, hr2⟩ := own_arg (by omega) hown2
                      have HR5 := Lib.hid hr2
                      clear hown1 hown2 hgrow hr2 HB4 hB4s
                      have HNs : Hid (Ints w5 p j v) := ints_up HN.out.ints HB5.out
                      have HBw : Hid (Below w.heap.size w w5) := up2 HN.out.bel HB5.out
                      clear HB5 HB HRow HN
                      go_wp2_with fail
                      refine (with_steps total whole more f g j j c2 w5 t1 t2 HWh.out.2 hw1 HRi.out (Nat.le_refl _) M0.out M1.out HL.out (fun q => by omega) HR5.out).mono ?_
                      rintro e w6 ⟨hb6, hq⟩
                      have HB6 := Lib.hid (up2 HBw.out hb6)
                      have HN6 := Lib.hid (ints_up HNs.out hb6)
                      clear hb6 HBw HNs HR5
                      by_cases h65 : 64 < j + 1
                      · rw [if_pos h65] at hq
                        rcases hq with ⟨_, rfl⟩ | ⟨q, _⟩
                        · have hz65 : (64 : Int) < (j : Int) + 1 := by omega
                          go_wp2_with fail
                          go_ret
                          exact ⟨rfl, HB6.out⟩
                        · exact absurd q (by decide)
                      · rw [if_neg h65] at hq
                        rcases hq with ⟨q, _⟩ | ⟨_, q6, rfl, _, hi6⟩
                        · exact absurd rfl q
                        · have HI6 := Lib.hid hi6
                          clear hi6
                          have HLo : Hid (∀ t, t < j → stepV total (withV f j more) whole t = v t) := fun t ht => by rw [HVE.out]; exact withV_lo ht
                          obtain ⟨u, hu⟩ : ∃ u, u = stepV total (withV f j more) whole := ⟨_, rfl⟩
                          rw [← hu] at HI6 HLo
                          clear hu HVE HL
                          have j9 : (j : Int) ≤ (j : Int) + 1 := by omega
                          go_wp2_with fail
                          refine (same_yes u v (some ⟨q6, 0, none⟩) (some ⟨p, 0, none⟩) j (j + 1) j w6 (by omega) (fun _ => ⟨q6, 0, rfl, fun t ht => by rw [Nat.zero_add]; exact (HI6.out t (by omega)).1⟩) (fun _ => ⟨p, 0, rfl, fun t ht => by rw [Nat.zero_add]; exact (HN6.out t (by omega)).1⟩) (fun t ht => HLo.out t ht)).mono ?_
                          rintro e w7 ⟨rfl, hb7⟩
                          go_wp2_with fail
                          go_ret
                          exact ⟨rfl, up2 HB6.out hb7⟩
                    · have hcj2 : (cap == j) = false := by simp [hcj]
                      go_wp2_with (first | (at_builtin; refine wpList_append_own _ rfl _ _ 22 rfl wc.heap.size 2 i0 (.int .i64 0) 1 8 Try.underlying22 hi hz0 hz1 hz2 rfl (by decide) _ _ _ rfl hown1 ⟨b, off + j, none⟩ (j - j) (cap - j) [] ?hy ?g1 (fun i u hu => by simp at hu) (fun u hu => by simp at hu) ?g3 ?g4 ?g5 ?_))
                      try case hy => simp [Act.eval]
                      try case g1 => simp
                      case g3 => unfold maxLen; omega
                      case g4 => omega
                      try case g5 => omega
                      intro v2 w5 hown2 hgrow _
                      have HB5 := Lib.hid (own_grow' hown1 HB4.out hB4s hgrow)
                      try simp only [Nat.sub_self, Nat.add_zero, List.append_nil] at hown2
                      rw [with_end f more j] at hown2
                      obtain ⟨g, c2, rfl, hr2⟩ := own_arg (by omega) hown2
                      have HR5 := Lib.hid hr2
                      clear hown1 hown2 hgrow hr2 HB4 hB4s
                      have HNs : Hid (Ints w5 p j v) := ints_up HN.out.ints HB5.out
                      have HBw : Hid (Below w.heap.size w w5) := up2 HN.out.bel HB5.out
                      clear HB5 HB HRow HN
                      go_wp2_with fail
                      refine (with_steps total whole more f g j j c2 w5 t1 t2 HWh.out.2 hw1 HRi.out (Nat.le_refl _) M0.out M1.out HL.out (fun q => by omega) HR5.out).mono ?_
                      rintro e w6 ⟨hb6, hq⟩
                      have HB6 := Lib.hid (up2 HBw.out hb6)
                      have HN6 := Lib.hid (ints_up HNs.out hb6)
                      clear hb6 HBw HNs HR5
                      by_cases h65 : 64 < j + 1
                      · rw [if_pos h65] at hq
                        rcases hq with ⟨_, rfl⟩ | ⟨q, _⟩
                        · have hz65 : (64 : Int) < (j : Int) + 1 := by omega
                          go_wp2_with fail
                          go_ret
                          exact ⟨rfl, HB6.out⟩
                        · exact absurd q (by decide)
                      · rw [if_neg h65] at hq
                        rcases hq with ⟨q, _⟩ | ⟨_, q6, rfl, _, hi6⟩
                        · exact absurd rfl q
                        · have HI6 := Lib.hid hi6
                          clear hi6
                          have HLo : Hid (∀ t, t < j → stepV total (withV f j more) whole t = v t) := fun t ht => by rw [HVE.out]; exact withV_lo ht
                          obtain ⟨u, hu⟩ : ∃ u, u = stepV total (withV f j more) whole := ⟨_, rfl⟩
                          rw [← hu] at HI6 HLo
                          clear hu HVE HL
                          have j9 : (j : Int) ≤ (j : Int) + 1 := by omega
                          go_wp2_with fail
                          refine (same_yes u v (some ⟨q6, 0, none⟩) (some ⟨p, 0, none⟩) j (j + 1) j w6 (by omega) (fun _ => ⟨q6, 0, rfl, fun t ht => by rw [Nat.zero_add]; exact (HI6.out t (by omega)).1⟩) (fun _ => ⟨p, 0, rfl, fun t ht => by rw [Nat.zero_add]; exact (HN6.out t (by omega)).1⟩) (fun t ht => HLo.out t ht)).mono ?_
                          rintro e w7 ⟨rfl, hb7⟩
                          go_wp2_with fail
                          go_ret
                          exact ⟨rfl, up2 HB6.out hb7⟩
end Go.Proofs.Ytiiamiaebhkhaaa
