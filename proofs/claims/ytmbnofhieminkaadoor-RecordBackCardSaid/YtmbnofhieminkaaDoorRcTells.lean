/- RecordTells: the core. -/
import Derived.Test.YtmbnofhieminkaaDoorRcK
namespace Go.Proofs.YtmbnofhieminkaaDoor
open Go.RowKit

/-- a list of strings, perhaps none -/
def StrA (w : World) (a : Option Addr) (xs : List ByteArray) : Prop := xs = [] ∨ ∃ b o, a = some ⟨b, o, none⟩ ∧ Strs w b o xs
theorem StrA.up {w w' : World} {a : Option Addr} {xs : List ByteArray} (h : StrA w a xs) (q : Below w.heap.size w w') : StrA w' a xs := by
  rcases h with h | ⟨b, o, e, h⟩
  · exact .inl h
  · exact .inr ⟨b, o, e, h.up q⟩
theorem join_on (a : Option Addr) (c : Nat) (xs : List ByteArray) (w : World) (h : StrA w a xs) (hN : xs.length ≤ 100000) (hc : xs.length ≤ c) (hT : Tb w) :
    Calls Tryd.prog 10 #[.slice a xs.length c] w fun r w' => r = .returned (joinV (joinA (rows xs))) ∧ Below w.heap.size w w' := by
  rcases h with rfl | ⟨b, o, rfl, h⟩
  · exact (join_none a c w).mono fun _ _ ⟨p, q⟩ => ⟨p, by rw [← q]; exact Below.refl _ _⟩
  · exact join_any b o c xs w h hN hc hT
theorem rjoin_on (a : Option Addr) (c : Nat) (xs : List ByteArray) (w : World) (h : StrA w a xs) (hN : xs.length ≤ 100000) (hsz : ∀ x ∈ xs, x.size ≤ maxLen) :
    Calls Tryd.prog 11 #[.slice a xs.length c] w fun r w' => r = .returned (joinV (joinA (rows xs))) ∧ Below w.heap.size w w' := by
  rcases h with rfl | ⟨b, o, rfl, h⟩
  · exact rjoin_none a c w
  · exact rjoin_any b o c xs w h hN hsz
theorem large_on (a : Option Addr) (c : Nat) (xs : List ByteArray) (w : World) (h : StrA w a xs) (hN : xs.length ≤ 140737488355328) (hsz : ∀ x ∈ xs, x.size ≤ 140737488355328) :
    Calls Tryd.prog 7 #[.slice a xs.length c] w (LargeIs xs w) := by
  refine large_any a c xs w ?_ ?_ hN hsz
  · intro b o e
    rcases h with rfl | ⟨b', o', e', h⟩
    · intro j x q; simp at q
    · rw [e] at e'; cases e'; exact h
  · intro hne
    rcases h with h | ⟨b, o, e, _⟩
    · exact absurd h hne
    · exact ⟨b, o, e⟩

set_option maxHeartbeats 8000000 in
theorem tells_any (s : ByteArray) (m : Bool) (a : Option Addr) (xs : List ByteArray) (cap : Nat) (n : Int) (w : World) (hs : s.size ≤ maxLen) (hX : StrA w a xs) (hN : xs.length ≤ 140737488355328) (hsz : ∀ x ∈ xs, x.size ≤ 140737488355328) (hcap : xs.length ≤ cap) (hT : Tb w) :
    Calls Tryd.prog 3 #[.string s, .bool m, .slice a xs.length cap, .int .i64 n] w fun e w' => e = .returned (.bool true) ∧ Below w.heap.size w w' := by
  have HA := Lib.hid (awake_any w hT)
  unfold maxLen at hs
  obtain ⟨N, hNe⟩ : ∃ N, N = xs.length := ⟨_, rfl⟩
  have HL : Hid (∀ W : World, Below w.heap.size w W → Calls Tryd.prog 7 #[.slice a N cap] W (LargeIs xs W)) := fun W q => by rw [hNe]; exact large_on a cap xs W (hX.up q) hN hsz
  have HT := Lib.hid hT
  have HX := Lib.hid (And.intro hX (And.intro hNe hcap))
  rw [← hNe]
  clear hT hX hsz hNe hcap hN
  by_cases h1 : 3000 < s.size
  · go_enter Tryd.func3, Tryd.ntmps3
    go_wp2_with fail
    refine HA.out.mono ?_
    rintro e w1 ⟨rfl, hb1⟩
    have B1 := Lib.hid hb1
    clear hb1
    go_wp2
    go_ret
    exact ⟨rfl, B1.out⟩
  have h1' : s.size ≤ 3000 := by omega
  clear h1
  go_enter Tryd.func3, Tryd.ntmps3
  go_wp2_with fail
  refine HA.out.mono ?_
  rintro e w1 ⟨rfl, hb1⟩
  have B1 := Lib.hid hb1
  clear hb1
  go_wp2_with fail
  refine (HL.out w1 B1.out).mono ?_
  rintro e w' ⟨B, rfl, hB, rfl⟩
  cases B
  case true =>
    clear hB
    go_wp2
    go_ret
    exact ⟨rfl, B1.out⟩
  have htot := hB rfl
  have h2 : N ≤ 3000 := by have := tot_len xs; rw [HX.out.2.1]; omega
  have HJ : Hid (∀ W : World, Below w.heap.size w W → Calls Tryd.prog 10 #[.slice a N cap] W fun r w' => r = .returned (joinV (joinA (rows xs))) ∧ Below W.heap.size W w') := fun W q => by
    have := join_on a cap xs W (HX.out.1.up q) (by rw [← HX.out.2.1]; omega) HX.out.2.2 (HT.out.up q)
    rwa [← HX.out.2.1] at this
  have HK : Hid (∀ W : World, Below w.heap.size w W → Calls Tryd.prog 11 #[.slice a N cap] W fun r w' => r = .returned (joinV (joinA (rows xs))) ∧ Below W.heap.size W w') := fun W q => by
    have := rjoin_on a cap xs W (HX.out.1.up q) (by rw [← HX.out.2.1]; omega) (fun x hx => by have := tot_mem xs x hx; unfold maxLen; omega)
    rwa [← HX.out.2.1] at this
  obtain ⟨⟨A, E⟩, hAE⟩ : ∃ p, p = joinA (rows xs) := ⟨_, rfl⟩
  rw [← hAE] at HJ HK
  have hjv : joinV (A, E) = .tuple #[.string (str A), .int .i64 (E : Int)] := rfl
  obtain ⟨T, hTd⟩ : ∃ T, T = str A := ⟨_, rfl⟩
  rw [← hTd] at hjv
  obtain ⟨⟨u, k, d⟩, huk⟩ : ∃ p, p = headA s.data.toList := ⟨_, rfl⟩
  have HH : Hid (∀ W : World, Calls Tryd.prog 12 #[.string s] W fun r w' => r = .returned (.tuple #[.bool u, .int .i64 (k : Int), .int .i64 (d : Int)]) ∧ W = w') := fun W => by have := head_any s W; rw [← huk] at this; exact this
  have HR : Hid (∀ W : World, Calls Tryd.prog 13 #[.string s] W fun r w' => r = .returned (.tuple #[.bool u, .int .i64 (k : Int), .int .i64 (d : Int)]) ∧ ∃ n, w' = W.drewN n) := fun W => by have := rhead_any s W; rw [← huk] at this; exact this
  obtain ⟨q, hq⟩ : ∃ q, q = nb s.size := ⟨_, rfl⟩
  have hq0 : 0 < q := by rw [hq]; exact nb_pos _
  have hq7 : q ≤ 100 := by rw [hq]; unfold nb; omega
  have HY : Hid (∀ W : World, Below w.heap.size w W → Calls Tryd.prog 8 #[.string s, .bool m] W fun e w' => e = .returned (.tuple #[.slice (some ⟨W.heap.size, 0, none⟩) q q, .int .i64 0]) ∧ Has w' W.heap.size 9 (rowA (layX s.data.toList m)) ∧ Below W.heap.size W w') := fun W p => by
    have := lay_any s m W (by omega) (HT.out.up p)
    rwa [← hq] at this
  have HZ : Hid (∀ W : World, Calls Tryd.prog 9 #[.string s, .bool m] W fun e w' => ∃ v, e = .returned (.tuple #[v, .int .i64 0]) ∧ w'.ownsRow W.heap.size 9 1 v q ((layX s.data.toList m).map Value.string) ∧ Below W.heap.size W w') := fun W => by
    have := rlay_any s m W (by omega)
    rwa [← hq] at this
  have hly : Hid ((layX s.data.toList m).length = q) := by show _ = _; rw [lay_len, list_size, hq]
  have HS : Hid (∀ (W : World) (b g c : Nat), Strs W b 0 (layX s.data.toList m) → Strs W g 0 (layX s.data.toList m) → Calls Tryd.prog 16 #[.slice (some ⟨b, 0, none⟩) q q, .slice (some ⟨g, 0, none⟩) q c] W fun e w' => e = .returned (.bool true) ∧ ∃ k, w' = W.drewN k) := fun W b g c p r => by
    have := same_any b 0 q g 0 c _ _ W p r rfl (by rw [hly.out]; omega)
    rwa [hly.out, decide_eq_true rfl] at this
  obtain ⟨c3, hc3⟩ : ∃ c3 : Nat, c3 = crc s.data.toList := ⟨_, rfl⟩
  have HC : Hid (∀ W : World, Below w.heap.size w W → Calls Tryd.prog 14 #[.string s] W fun e w' => e = .returned (.int .u32 (c3 : Int)) ∧ W = w') := fun W p => by rw [hc3]; exact chk_any s W (by unfold maxLen; omega) (HT.out.up p)
  have HD : Hid (∀ W : World, Calls Tryd.prog 15 #[.string s] W fun e w' => e = .returned (.int .u32 (c3 : Int)) ∧ W = w') := fun W => by rw [hc3]; exact rchk_any s W (by unfold maxLen; omega)
  clear hB htot hAE hTd huk hq hc3
  go_wp2_with fail
  refine (HY.out w1 B1.out).mono ?_
  rintro e w2 ⟨rfl, hh2, hb2⟩
  obtain ⟨b1, hb1e⟩ : ∃ b1, b1 = w1.heap.size := ⟨_, rfl⟩
  rw [← hb1e]
  rw [← hb1e] at hh2
  have B2 := Lib.hid (up2 B1.out hb2)
  have H2 := Lib.hid hh2
  clear hb2 hh2 hb1e
  go_wp2_with fail
  refine (HZ.out w2).mono ?_
  rintro e w3 ⟨v, rfl, hown, hb3⟩
  obtain ⟨g, c2, rfl, hc2, hgB, hSt⟩ := own_strs hown hq0
  have B3 := Lib.hid (up2 B2.out hb3)
  have S3 := Lib.hid (And.intro (H2.out.up hb3).strs hSt)
  clear hown hb3 hc2 hgB hSt
  go_wp2_with fail
  refine (HJ.out w3 B3.out).mono ?_
  rintro e w4 ⟨rfl, hb4⟩
  rw [hjv]
  have B4 := Lib.hid (up2 B3.out hb4)
  have S4 := Lib.hid (And.intro (S3.out.1.up hb4) (S3.out.2.up hb4))
  clear hb4
  go_wp2_with fail
  refine (HK.out w4 B4.out).mono ?_
  rintro e w5 ⟨rfl, hb5⟩
  rw [hjv]
  have B5 := Lib.hid (up2 B4.out hb5)
  have S5 := Lib.hid (And.intro (S4.out.1.up hb5) (S4.out.2.up hb5))
  clear hb5 hjv
  go_wp2_with fail
  refine (HH.out w5).mono ?_
  rintro e w' ⟨rfl, rfl⟩
  go_wp2_with fail
  refine (HR.out w5).mono ?_
  rintro e w6 ⟨rfl, nn, rfl⟩
  obtain ⟨W6, hW6⟩ : ∃ W6, W6 = w5.drewN nn := ⟨_, rfl⟩
  have B6 := Lib.hid (show Below w.heap.size w W6 by rw [hW6]; exact blw B5.out nn)
  have S6 := Lib.hid (show Strs W6 b1 0 (layX s.data.toList m) ∧ Strs W6 g 0 (layX s.data.toList m) by rw [hW6]; exact ⟨S5.out.1.drewN nn, S5.out.2.drewN nn⟩)
  rw [← hW6]
  clear hW6
  go_wp2_with fail
  refine (HC.out W6 B6.out).mono ?_
  rintro e w' ⟨rfl, rfl⟩
  go_wp2_with fail
  refine (HD.out W6).mono ?_
  rintro e w' ⟨rfl, rfl⟩
  go_wp2_with fail
  refine (HS.out W6 b1 g c2 S6.out.1 S6.out.2).mono ?_
  rintro e w7 ⟨rfl, nn2, rfl⟩
  obtain ⟨W7, hW7⟩ : ∃ W7, W7 = W6.drewN nn2 := ⟨_, rfl⟩
  have B7 := Lib.hid (show Below w.heap.size w W7 by rw [hW7]; exact blw B6.out nn2)
  rw [← hW7]
  clear hW7
  by_cases hn : 100000 < n
  · go_wp2
    go_ret
    exact ⟨rfl, B7.out⟩
  · have hn' : n ≤ 100000 := by omega
    have HB : Hid (∀ W : World, Calls Tryd.prog 17 #[.int .i64 n] W fun e w' => e = .returned (.int .i64 (nbI n)) ∧ W = w') := fun W => blk_any n W
    have HE : Hid (∀ W : World, Calls Tryd.prog 18 #[.int .i64 n] W fun e w' => e = .returned (.int .i64 (nbI n)) ∧ W = w') := fun W => rblk_any n W
    obtain ⟨z, hz⟩ : ∃ z, z = nbI n := ⟨_, rfl⟩
    rw [← hz] at HB HE
    clear hn hz
    go_wp2_with fail
    refine (HB.out W7).mono ?_
    rintro e w' ⟨rfl, rfl⟩
    go_wp2_with fail
    refine (HE.out W7).mono ?_
    rintro e w' ⟨rfl, rfl⟩
    go_wp2
    go_ret
    exact ⟨rfl, B7.out⟩
end Go.Proofs.YtmbnofhieminkaaDoor
