/- CodecShort. -/
import Derived.Test.YtmfgdpbnnlmjhaaCxJ
namespace Go.Proofs.Ytmfgdpbnnlmjhaa
open Go.RowKit

/-- a number's size -/
def sz (a : Int) : Int := if a < 0 then -(a + 1) else a
theorem enc_odd (m : Nat) : (enc (2 * m + 1)).length = (enc (2 * m)).length := by
  by_cases h : 2 * m < 128
  · rw [enc_small h, enc_small (by omega)]; rfl
  · rw [enc_more h, enc_more (by omega), show (2 * m + 1) / 128 = 2 * m / 128 from by omega]; rfl
theorem nl_sz (a : Int) : nl a = (enc (2 * (sz a).toNat)).length := by
  unfold nl fold sz
  by_cases h : a < 0
  · rw [if_neg (by omega), if_pos h, ← enc_odd]; congr 2; omega
  · rw [if_pos (by omega), if_neg h]; congr 2; omega
theorem nl_mono {a b : Int} (h : sz a ≤ sz b) : nl a ≤ nl b := by
  rw [nl_sz, nl_sz]
  exact enc_mono (by omega)
/-- all but the last step -/
theorem short_any (a b : Int) (w : World) (ha : Am a) (hb : Am b) :
    Calls Try.prog 6 #[.int .i64 a, .int .i64 b] w fun e w' => e = .returned (.bool true) ∧ Below w.heap.size w w' := by
  have HA := Lib.hid (awake_any w)
  have NA := Lib.hid (fun W => number_any a W ha)
  have NB := Lib.hid (fun W => number_any b W hb)
  have h1 : (str (enc (fold a))).size = nl a := str_size _
  have h2 : (str (enc (fold b))).size = nl b := str_size _
  have t1 := nl_ten ha
  have t2 := nl_ten hb
  have p1 := nl_pos a
  have m1 : Hid (sz a ≤ sz b → nl a ≤ nl b) := nl_mono
  have m2 : Hid (sz b ≤ sz a → nl b ≤ nl a) := nl_mono
  obtain ⟨x, hx⟩ : ∃ x, x = nl a := ⟨_, rfl⟩
  obtain ⟨y, hy⟩ : ∃ y, y = nl b := ⟨_, rfl⟩
  obtain ⟨X, hX⟩ : ∃ X, X = str (enc (fold a)) := ⟨_, rfl⟩
  obtain ⟨Y, hY⟩ : ∃ Y, Y = str (enc (fold b)) := ⟨_, rfl⟩
  rw [← hX] at NA h1
  rw [← hY] at NB h2
  rw [← hx] at h1 t1 m1 m2 p1
  rw [← hy] at h2 t2 m1 m2
  clear hx hy hX hY
  unfold Am at ha hb
  unfold sz at m1 m2
  go_enter Try.func6, Try.ntmps6
  go_wp2_with fail
  refine HA.out.mono ?_
  rintro e w1 ⟨rfl, hb1⟩
  have B1 := Lib.hid hb1
  clear hb1
  go_wp2_with fail
  refine (NA.out _).mono ?_
  rintro e w2 ⟨rfl, hb2⟩
  have B2 := Lib.hid (up2 B1.out hb2)
  clear hb2
  go_wp2_with fail
  refine (NB.out _).mono ?_
  rintro e w3 ⟨rfl, hb3⟩
  have B3 := Lib.hid (up2 B2.out hb3)
  clear hb3 B1 B2 HA NA NB
  by_cases qa : a < 0
  · by_cases qb : b < 0
    · rw [if_pos qa, if_pos qb] at m1 m2
      by_cases qq : -(a + 1) ≤ -(b + 1)
      · have := m1.out qq
        go_wp2
        go_ret
        exact ⟨rfl, B3.out⟩
      · have := m2.out (by omega)
        go_wp2
        go_ret
        exact ⟨rfl, B3.out⟩
    · rw [if_pos qa, if_neg qb] at m1 m2
      by_cases qq : -(a + 1) ≤ b
      · have := m1.out qq
        go_wp2
        go_ret
        exact ⟨rfl, B3.out⟩
      · have := m2.out (by omega)
        go_wp2
        go_ret
        exact ⟨rfl, B3.out⟩
  · by_cases qb : b < 0
    · rw [if_neg qa, if_pos qb] at m1 m2
      by_cases qq : a ≤ -(b + 1)
      · have := m1.out qq
        go_wp2
        go_ret
        exact ⟨rfl, B3.out⟩
      · have := m2.out (by omega)
        go_wp2
        go_ret
        exact ⟨rfl, B3.out⟩
    · rw [if_neg qa, if_neg qb] at m1 m2
      by_cases qq : a ≤ b
      · have := m1.out qq
        go_wp2
        go_ret
        exact ⟨rfl, B3.out⟩
      · have := m2.out (by omega)
        go_wp2
        go_ret
        exact ⟨rfl, B3.out⟩
end Go.Proofs.Ytmfgdpbnnlmjhaa
