/- Plain facts on parts: quotients and rests of whole numbers, and of bits. -/
import Derived.Deep.QuietTactic
import Derived.BigQuiet
import Derived.WalkMore
import Derived.ScopeJumps
import Derived.Test.YtklaonoekmhakaaGreatD
namespace Go.Proofs.YtklaonoekmhakaaGreat

theorem div_uniq {x m q r : Int} (hm : 0 < m) (h : q * m + r = x) (h0 : 0 ≤ r) (h1 : r < m) : x / m = q ∧ x % m = r := by
  have hx : x = r + m * q := by rw [← h, Int.mul_comm]; omega
  constructor
  · rw [hx, Int.add_mul_ediv_left _ _ (by omega), Int.ediv_eq_zero_of_lt h0 h1]; omega
  · rw [hx, Int.add_mul_emod_self_left, Int.emod_eq_of_lt h0 h1]

theorem div_mul_add (x m : Int) : x / m * m + x % m = x := by have := Int.mul_ediv_add_emod x m; rw [Int.mul_comm]; exact this

theorem once_neg {a m : Int} (hm : 1 ≤ m) (h : a.tmod m < 0) : a / m = a.tdiv m - 1 ∧ a % m = a.tmod m + m := by
  have e := Int.tdiv_mul_add_tmod a m
  have b := Int.tmod_lt_of_pos a (b := m) (by omega)
  have b2 := Int.tmod_lt_of_pos (-a) (b := m) (by omega)
  rw [Int.neg_tmod] at b2
  exact div_uniq (by omega) (by rw [Int.sub_mul]; omega) (by omega) (by omega)
theorem once_pos {a m : Int} (hm : 1 ≤ m) (h : ¬ a.tmod m < 0) : a / m = a.tdiv m ∧ a % m = a.tmod m := by
  have e := Int.tdiv_mul_add_tmod a m
  have b := Int.tmod_lt_of_pos a (b := m) (by omega)
  exact div_uniq (by omega) e (by omega) (by omega)

theorem add_lt {x y m : Int} (hm : 1 ≤ m) (h : x % m + y % m < m) : (x + y) / m = x / m + y / m ∧ (x + y) % m = x % m + y % m := by
  have ex := div_mul_add x m; have ey := div_mul_add y m
  have bx := Int.emod_nonneg x (b := m) (by omega); have ny := Int.emod_nonneg y (b := m) (by omega)
  exact div_uniq (by omega) (by rw [Int.add_mul]; omega) (by omega) (by omega)
theorem add_ge {x y m : Int} (hm : 1 ≤ m) (h : m ≤ x % m + y % m) : (x + y) / m = x / m + y / m + 1 ∧ (x + y) % m = x % m + y % m - m := by
  have ex := div_mul_add x m; have ey := div_mul_add y m
  have bx := Int.emod_lt_of_pos x (b := m) (by omega); have ny := Int.emod_lt_of_pos y (b := m) (by omega)
  exact div_uniq (by omega) (by rw [Int.add_mul, Int.add_mul]; omega) (by omega) (by omega)

theorem div_bd {x m B : Int} (hm : 1 ≤ m) (hB : 0 ≤ B) (h1 : -B ≤ x) (h2 : x ≤ B) : -B ≤ x / m ∧ x / m ≤ B := by
  constructor
  · have h : (-B) * 1 ≤ (-B) * 1 := Int.le_refl _
    have : -B ≤ x / m := by
      rw [Int.le_ediv_iff_mul_le (by omega)]
      have : B * 1 ≤ B * m := Int.mul_le_mul_of_nonneg_left hm hB
      rw [Int.neg_mul]; omega
    exact this
  · by_cases hx : 0 ≤ x
    · have := Int.ediv_le_self m hx; omega
    · have := Int.ediv_neg_of_neg_of_pos (a := x) (b := m) (by omega) (by omega); omega
theorem div_hi {x m B : Int} (hm : 1 ≤ m) (hB : 0 ≤ B) (h2 : x ≤ B) : x / m ≤ B := by
  by_cases hx : 0 ≤ x
  · have := Int.ediv_le_self m hx; omega
  · have := Int.ediv_neg_of_neg_of_pos (a := x) (b := m) (by omega) (by omega); omega
end Go.Proofs.YtklaonoekmhakaaGreat

namespace Go.Proofs.YtklaonoekmhakaaGreat
open Go.RowKit

/-- a share of a number by a whole -/
def sh (x m : Int) : Value := .agg #[.int .u64 (hiW (x / m)), .int .u64 (loW (x / m)), .int .u64 (x % m)]

theorem splus_any (x y m : Int) (w : World) (hm : 1 ≤ m) (hm2 : m ≤ 9223372036854775807) :
    Calls Tryz.prog 129 #[sh x m, sh y m, .int .u64 m] w fun e w' => e = .returned (sh (x + y) m) ∧ Below w.heap.size w w' := by
  have bx := Int.emod_nonneg x (b := m) (by omega); have ny := Int.emod_nonneg y (b := m) (by omega)
  have cx := Int.emod_lt_of_pos x (b := m) (by omega); have cy := Int.emod_lt_of_pos y (b := m) (by omega)
  unfold sh
  by_cases h : x % m + y % m < m
  · obtain ⟨e1, e2⟩ := add_lt hm h
    rw [e1, e2]
    exact splus_lt _ _ _ _ _ w (by omega) (by omega) (by omega) (by omega) h
  · obtain ⟨e1, e2⟩ := add_ge hm (Int.not_lt.1 h)
    rw [e1, e2]
    exact splus_ge _ _ _ _ _ w (by omega) (by omega) (by omega) (by omega) (Int.not_lt.1 h) hm hm2

theorem Row3.drewN {W : World} {p : Nat} {x y z : Value} (h : Row3 W p x y z) (n : Nat) : Row3 (W.drewN n) p x y z := by
  unfold Row3 at *; simpa using h

theorem wrap_u {n : Int} (h0 : 0 ≤ n) (h1 : n < 18446744073709551616) : IntKind.u64.wrap n = n := by
  simp [IntKind.wrap, IntKind.bits, IntKind.signed]; omega

set_option maxHeartbeats 400000 in
theorem once_any (a m : Int) (w : World) (a1 : -9223372036854775808 ≤ a) (a2 : a ≤ 9223372036854775807) (hm : 1 ≤ m) (hm2 : m ≤ 9223372036854775807) :
    Calls Tryz.prog 127 #[.int .i64 a, .int .i64 m] w fun e w' => e = .returned (sh a m) ∧ Below w.heap.size w w' := by
  have hd1 := (div_bd (x := a) (B := 9223372036854775808) hm (by omega) a1 (by omega)).1
  have hd2 := div_hi (x := a) (B := 9223372036854775807) hm (by omega) a2
  have t1 := Int.tmod_lt_of_pos a (b := m) (by omega)
  have t2 := Int.tmod_lt_of_pos (-a) (b := m) (by omega)
  rw [Int.neg_tmod] at t2
  have hz : (m == 0) = false := beq_eq_false_iff_ne.2 (by omega)
  unfold sh
  by_cases h : a.tmod m < 0
  · obtain ⟨e1, e2⟩ := once_neg hm h
    have hw := wrap_u (n := a.tmod m + m) (by omega) (by omega)
    rw [e1, e2]
    rw [e1] at hd1 hd2
    clear e1 e2
    go_enter Tryz.func127, Tryz.ntmps127
    go_wp2_with fail
    go_quiet (fail)
    go_wp2_with fail
    refine (widen_any (a.tdiv m - 1) _ hd1 hd2).mono ?_
    rintro e w1 ⟨rfl, hb⟩
    obtain ⟨d0, d1, d2, g0, g1, g2⟩ := ((Row3.new w (.int .u64 0) (.int .u64 0) (.int .u64 0) 162).drewN nq).below hb
    go_wp2
    exact bodyPost_ret (v := .agg #[.int .u64 (hiW (a.tdiv m - 1)), .int .u64 (loW (a.tdiv m - 1)), .int .u64 (a.tmod m + m)]) (by simp [results, Tryz.results127, go_sem, d0, d1, d2]) rfl
      ⟨rfl, (((below_drewN ((Below.refl _ _).alloc (Nat.le_refl _) _) nq).trans (hb.mono (by simp))).setCell (Nat.le_refl _) _ |>.setCell (Nat.le_refl _) _).setCell (Nat.le_refl _) _⟩
  · obtain ⟨e1, e2⟩ := once_pos hm h
    have hw := wrap_u (n := a.tmod m) (by omega) (by omega)
    rw [e1, e2]
    rw [e1] at hd1 hd2
    clear e1 e2
    go_enter Tryz.func127, Tryz.ntmps127
    go_wp2_with fail
    go_quiet (fail)
    go_wp2_with fail
    refine (widen_any (a.tdiv m) _ hd1 hd2).mono ?_
    rintro e w1 ⟨rfl, hb⟩
    obtain ⟨d0, d1, d2, g0, g1, g2⟩ := ((Row3.new w (.int .u64 0) (.int .u64 0) (.int .u64 0) 162).drewN nq).below hb
    go_wp2
    exact bodyPost_ret (v := .agg #[.int .u64 (hiW (a.tdiv m)), .int .u64 (loW (a.tdiv m)), .int .u64 (a.tmod m)]) (by simp [results, Tryz.results127, go_sem, d0, d1, d2]) rfl
      ⟨rfl, (((below_drewN ((Below.refl _ _).alloc (Nat.le_refl _) _) nq).trans (hb.mono (by simp))).setCell (Nat.le_refl _) _ |>.setCell (Nat.le_refl _) _).setCell (Nat.le_refl _) _⟩
end Go.Proofs.YtklaonoekmhakaaGreat

namespace Go.Proofs.YtklaonoekmhakaaGreat
open Go.RowKit

def lenList : List UInt8 := (([0, 1, 2, 2, 3, 3, 3, 3, 4, 4, 4, 4, 4, 4, 4, 4, 5, 5, 5, 5, 5, 5, 5, 5, 5, 5, 5, 5, 5, 5, 5, 5] ++ List.replicate 32 6) ++ List.replicate 64 7 ++ List.replicate 128 8)
def lenTab : ByteArray := ⟨lenList.toArray⟩

theorem tab_size : lenTab.size = 256 := by decide +kernel
theorem tab_chk : (List.range 256).all (fun n => decide (n < 2 ^ (lenTab[n]!).toNat) && decide ((lenTab[n]!).toNat ≤ 8)) = true := by decide +kernel
theorem tab_ok (n : Nat) (h : n < lenTab.size) : n < 2 ^ (lenTab[n]'h).toNat ∧ (lenTab[n]'h).toNat ≤ 8 := by
  have c := List.all_eq_true.1 tab_chk n (List.mem_range.2 (by rw [tab_size] at h; exact h))
  rw [getElem!_pos lenTab n h] at c
  rw [Bool.and_eq_true, decide_eq_true_eq, decide_eq_true_eq] at c
  exact c

def LenOk (x : Int) (w : World) (e : Ending) (w' : World) : Prop := ∃ k : Nat, k ≤ 64 ∧ x < 2 ^ k ∧ e = .returned (.int .i64 k) ∧ w = w'

theorem len_num (x y : Int) (c : Nat) (P : Int) (hP : (2 : Int) ^ c = P) (hy : 0 ≤ y) (hx : x < (y + 1) * P) (T : Nat) (t1 : y.toNat < 2 ^ T) : x < (2 : Int) ^ (c + T) := by
  have h3 : y + 1 ≤ (2 : Int) ^ T := by
    have h5 : ((y.toNat : Nat) : Int) < ((2 ^ T : Nat) : Int) := Int.ofNat_lt.2 t1
    rw [Int.natCast_pow, Int.toNat_of_nonneg hy] at h5
    exact h5
  have hPp : 0 ≤ P := by rw [← hP]; exact Int.le_of_lt (Int.pow_pos (by decide))
  have h6 : (y + 1) * P ≤ (2 : Int) ^ T * P := Int.mul_le_mul_of_nonneg_right h3 hPp
  rw [Int.pow_add, hP, Int.mul_comm P]
  exact Int.lt_of_lt_of_le hx h6

theorem len_wrap (c T : Nat) (hc : c ≤ 56) (t2 : T ≤ 8) : wrap64 ((c : Int) + wrap64 (T : Int)) = ((c + T : Nat) : Int) := by
  have e1 : wrap64 (T : Int) = T := IntWalk.wrap64_in _ ⟨by omega, by omega⟩
  rw [e1, IntWalk.wrap64_in _ ⟨by omega, by omega⟩, Int.natCast_add]

theorem len_core (x : Int) (w : World) (y : Int) (c : Nat) (P : Int) (hP : (2 : Int) ^ c = P) (hc : c ≤ 56) (hy : 0 ≤ y) (hx : x < (y + 1) * P) (T : Nat) (t1 : y.toNat < 2 ^ T) (t2 : T ≤ 8) :
    LenOk x w (.returned (.int .i64 (wrap64 ((c : Int) + wrap64 (T : Int))))) w := by
  rw [len_wrap c T hc t2]
  have h64 : c + T ≤ 64 := by clear hP hx t1; omega
  have hlt := len_num x y c P hP hy hx T t1
  exact ⟨c + T, h64, hlt, rfl, rfl⟩
theorem len_leaf (x : Int) (w : World) (y : Int) (c : Nat) (P : Int) (hP : (2 : Int) ^ c = P) (hc : c ≤ 56) (hy : 0 ≤ y) (h : y.toNat < lenTab.size) (hx : x < (y + 1) * P) :
    LenOk x w (.returned (.int .i64 (wrap64 ((c : Int) + wrap64 (((lenTab[y.toNat]'h).toNat : Nat) : Int))))) w :=
  len_core x w y c P hP hc hy hx _ (tab_ok _ h).1 (tab_ok _ h).2

theorem len_leaf0 (x : Int) (w : World) (hy : 0 ≤ x) (h : x.toNat < lenTab.size) :
    LenOk x w (.returned (.int .i64 (wrap64 (wrap64 (((lenTab[x.toNat]'h).toNat : Nat) : Int))))) w := by
  have := len_core x w x 0 1 (by rfl) (by omega) hy (by omega) _ (tab_ok _ h).1 (tab_ok _ h).2
  rw [show ((0 : Nat) : Int) + wrap64 (((lenTab[x.toNat]'h).toNat : Nat) : Int) = wrap64 (((lenTab[x.toNat]'h).toNat : Nat) : Int) from Int.zero_add _] at this
  exact this

theorem tab_lt (y : Int) (h : y < 256) : y.toNat < lenTab.size := by rw [tab_size]; omega

set_option maxRecDepth 100000 in
set_option maxHeartbeats 400000 in
theorem len64_any (x : Int) (w : World) (h0 : 0 ≤ x) (h1 : x < 9223372036854775808) :
    Calls Tryz.prog 128 #[.int .u64 x] w (LenOk x w) := by
  go_enter Tryz.func128, Tryz.ntmps128
  go_wp2
  all_goals go_ret
  · exact len_leaf x w _ 56 72057594037927936 (by decide) (by decide) (by omega) (tab_lt _ (by omega)) (by omega)
  · exact len_leaf x w _ 48 281474976710656 (by decide) (by decide) (by omega) (tab_lt _ (by omega)) (by omega)
  · exact len_leaf x w _ 40 1099511627776 (by decide) (by decide) (by omega) (tab_lt _ (by omega)) (by omega)
  · exact len_leaf x w _ 32 4294967296 (by decide) (by decide) (by omega) (tab_lt _ (by omega)) (by omega)
  · exact len_leaf x w _ 24 16777216 (by decide) (by decide) (by omega) (tab_lt _ (by omega)) (by omega)
  · exact len_leaf x w _ 16 65536 (by decide) (by decide) (by omega) (tab_lt _ (by omega)) (by omega)
  · exact len_leaf x w _ 8 256 (by decide) (by decide) (by omega) (tab_lt _ (by omega)) (by omega)
  · exact len_leaf0 x w (by omega) (tab_lt _ (by omega))
end Go.Proofs.YtklaonoekmhakaaGreat

namespace Go.Proofs.YtklaonoekmhakaaGreat

/-- As Q; by a goto to label l: J; to label m: K; by any other goto: no way out. -/
def jump2 (l : Nat) (J : Act → World → Prop) (m : Nat) (K : Act → World → Prop) (Q : Exit → Act → World → Prop) : Exit → Act → World → Prop
  | .goto i, a, w => (i = l ∧ J a w) ∨ (i = m ∧ K a w)
  | e, a, w => Q e a w

section
variable {P : Program} {a : Act} {w : World} {Q : Exit → Act → World → Prop}

theorem jump2_mono {l m : Nat} {J J' K K' : Act → World → Prop} (hJ : ∀ a w, J a w → J' a w) (hK : ∀ a w, K a w → K' a w) : ∀ e a w, jump2 l J m K Q e a w → jump2 l J' m K' Q e a w := by
  intro e a w h
  cases e with
  | goto i => exact h.elim (fun h => .inl ⟨h.1, hJ _ _ h.2⟩) (fun h => .inr ⟨h.1, hK _ _ h.2⟩)
  | normal => exact h
  | exit _ => exact h
  | ret => exact h
  | panic _ => exact h
  | outgrown => exact h

theorem wp_scope_two {c body last : Code} (l m : Nat) (J K : Act → World → Prop) (μ : Act → World → Nat) (hl : findLabel c l = some (Code.skip.seq body)) (hm : findLabel c m = some last)
    (pass' : ∀ a w, J a w → body.wp P (jump2 l (fun a' w' => J a' w' ∧ μ a' w' < μ a w) m K Q) a w)
    (out : ∀ a w, K a w → last.wp P (jump2 l (fun _ _ => False) m (fun _ _ => False) Q) a w)
    (first : (∀ a w, J a w → body.wp P (jump2 l J m K Q) a w) → c.wp P (jump2 l J m K Q) a w) : (Code.scope c).wp P Q a w := by
  have enter : ∀ a w, J a w → body.wp P (jump2 l J m K Q) a w := fun a w h => Code.wp_mono (jump2_mono (fun _ _ h => h.1) (fun _ _ h => h)) (pass' a w h)
  obtain ⟨rest, hrest⟩ : ∃ r, r = Code.skip.seq body := ⟨_, rfl⟩
  have pass : ∀ a w, J a w → rest.wp P (jump2 l (fun a' w' => J a' w' ∧ μ a' w' < μ a w) m K Q) a w := fun a w h => by
    rw [hrest]; exact wp_seq (wp_skip (pass' a w h))
  rw [← hrest] at hl
  intro b k cs
  have gl : gotoIn l (.inScope c :: k) = some (.code rest :: .inScope c :: k) := by simp [gotoIn, hl]
  have gm : gotoIn m (.inScope c :: k) = some (.code last :: .inScope c :: k) := by simp [gotoIn, hm]
  have ends : ∀ a w, K a w → ∃ e a' w', Q e a' w' ∧ Arrives P (lone (b.at a (.code last :: .inScope c :: k)) cs w) b k cs e a' w' := by
    intro a w hK
    obtain ⟨e, a₁, w₁, hq, harr⟩ := out a w hK b (.inScope c :: k) cs
    cases e with
    | normal => exact ⟨.normal, a₁, w₁, hq, Steps.trans harr (.one step_inScope)⟩
    | exit id => exact ⟨.exit id, a₁, w₁, hq, fun k' hk => harr k' (by simp [exitTo, hk])⟩
    | goto l' => exact (hq.elim (fun h => h.2) (fun h => h.2)).elim
    | ret => exact ⟨_, a₁, w₁, hq, harr⟩
    | panic ch => exact ⟨_, a₁, w₁, hq, harr⟩
    | outgrown => exact ⟨_, a₁, w₁, hq, harr⟩
  have key : ∀ n a w, μ a w = n → J a w → ∃ e a' w', Q e a' w' ∧ Arrives P (lone (b.at a (.code rest :: .inScope c :: k)) cs w) b k cs e a' w' := by
    intro n
    induction n using Nat.strongRecOn with
    | _ n ih =>
      intro a w hn hJ
      obtain ⟨e, a₁, w₁, hq, harr⟩ := pass a w hJ b (.inScope c :: k) cs
      cases e with
      | normal => exact ⟨.normal, a₁, w₁, hq, Steps.trans harr (.one step_inScope)⟩
      | exit id => exact ⟨.exit id, a₁, w₁, hq, fun k' hk => harr k' (by simp [exitTo, hk])⟩
      | goto l' =>
        rcases hq with ⟨rfl, hJ', hlt⟩ | ⟨rfl, hK⟩
        · obtain ⟨e₂, a₂, w₂, hq₂, harr₂⟩ := ih _ (by omega) a₁ w₁ rfl hJ'
          exact ⟨e₂, a₂, w₂, hq₂, .of_steps (harr _ gl) harr₂⟩
        · obtain ⟨e₂, a₂, w₂, hq₂, harr₂⟩ := ends a₁ w₁ hK
          exact ⟨e₂, a₂, w₂, hq₂, .of_steps (harr _ gm) harr₂⟩
      | ret => exact ⟨_, a₁, w₁, hq, harr⟩
      | panic ch => exact ⟨_, a₁, w₁, hq, harr⟩
      | outgrown => exact ⟨_, a₁, w₁, hq, harr⟩
  obtain ⟨e, a₁, w₁, hq, harr⟩ := first enter b (.inScope c :: k) cs
  cases e with
  | normal => exact ⟨.normal, a₁, w₁, hq, .head step_scope (Steps.trans harr (.one step_inScope))⟩
  | exit id => exact ⟨.exit id, a₁, w₁, hq, fun k' hk => .head step_scope (harr k' (by simp [exitTo, hk]))⟩
  | goto l' =>
    rcases hq with ⟨rfl, hJ'⟩ | ⟨rfl, hK⟩
    · obtain ⟨e₂, a₂, w₂, hq₂, harr₂⟩ := key _ a₁ w₁ rfl hJ'
      exact ⟨e₂, a₂, w₂, hq₂, .of_steps (.head step_scope (harr _ gl)) harr₂⟩
    · obtain ⟨e₂, a₂, w₂, hq₂, harr₂⟩ := ends a₁ w₁ hK
      exact ⟨e₂, a₂, w₂, hq₂, .of_steps (.head step_scope (harr _ gm)) harr₂⟩
  | ret => exact ⟨_, a₁, w₁, hq, .of_steps (.one step_scope) harr⟩
  | panic ch => exact ⟨_, a₁, w₁, hq, .of_steps (.one step_scope) harr⟩
  | outgrown => exact ⟨_, a₁, w₁, hq, .of_steps (.one step_scope) harr⟩
end
end Go.Proofs.YtklaonoekmhakaaGreat
