/- NetTells: its core, over any that does as is asked. -/
import Derived.Test.YtiaocahcdbikhaaNtU
import Derived.Test.YtiaocahcdbikhaaNtB
namespace Go.Proofs.Ytiaocahcdbikhaa
open Go.RowKit

/-- postings, or none, and why -/
def TlR (w : World) (E : Int) (M : List Po) (e : Ending) (w' : World) : Prop := ∃ a k, e = .returned (.tuple #[.slice a M.length k, .int .i64 E]) ∧ PsA w' a M ∧ Below w.heap.size w w'
theorem NtR.tl {w w' : World} {E : Int} {L : List Po} {e : Ending} (h : NtR w E L e w') : TlR w E (if E = 0 then L else []) e w' := by
  rcases h.cases with ⟨q, he, hb⟩ | ⟨q, a, k, he, hp, hb⟩
  · rw [if_neg q]; exact ⟨none, 0, he, .inl rfl, hb⟩
  · subst q; rw [if_pos rfl]; exact ⟨a, k, he, hp, hb⟩
theorem QnR.tl {w w' : World} {E : Int} {L : List Po} {e : Ending} (h : QnR w E L e w') : TlR w E (if E = 0 then L else []) e w' := by
  obtain ⟨hb, ⟨q, he⟩ | ⟨q, a, k, he, hp⟩⟩ := h
  · rw [if_neg q]; exact ⟨none, 0, he, .inl rfl, hb⟩
  · subst q; rw [if_pos rfl]; exact ⟨a, k, he, hp, hb⟩
set_option maxRecDepth 100000 in
set_option maxHeartbeats 4000000 in
theorem tells17_law (K : NtK) (A : Aw17) (c b r x : Int) (w : World) (hb : Am b) (hr : Am r) (hx : Am x) :
    Calls Try.prog 3 #[.int .i64 c, .int .i64 b, .int .i64 r, .int .i64 x] w fun e w' => e = .returned (.bool true) ∧ Below w.heap.size w w' := by
  have hz : Am 0 := by unfold Am; omega
  have HAw := Lib.hid A
  have HS1 := Lib.hid (fun (W : World) => K.sides W b r hb hr)
  have HS2 := Lib.hid (fun (W : World) => qntSides_any b r W hb hr)
  have HB1 := Lib.hid (fun (W : World) => (K.bill W c b r x hb hr hx).mono fun _ _ z => z.tl)
  have HB2 := Lib.hid (fun (W : World) => (qntchange_any c b r x 0 W hb hr hx hz).mono fun _ _ z => z.tl)
  have HE1 := Lib.hid (fun (W : World) => (K.earn W c b r x hb hr hx).mono fun _ _ z => z.tl)
  have HE2 := Lib.hid (fun (W : World) => (qntchange_any c b r 0 x W hb hr hz hx).mono fun _ _ z => z.tl)
  have hl : ∀ (E : Int) (L : List Po), L.length ≤ 4 → (if E = 0 then L else []).length ≤ 4 := fun E L q => by split; exact q; exact Nat.zero_le _
  have l1 := hl (ntE c b r x 0) _ (nt_len c b r x 0)
  have l2 := hl (ntE c b r 0 x) _ (nt_len c b r 0 x)
  generalize (if ntE c b r x 0 = 0 then ntL c b r x 0 else []) = L1 at HB1 HB2 l1
  generalize (if ntE c b r 0 x = 0 then ntL c b r 0 x else []) = L2 at HE1 HE2 l2
  generalize ntE c b r x 0 = E1 at HB1 HB2
  generalize ntE c b r 0 x = E2 at HE1 HE2
  generalize sidL b r = sl at HS1 HS2
  generalize sidA b r = sa at HS1 HS2
  generalize sidE b r = se at HS1 HS2
  unfold TlR at HB1 HB2 HE1 HE2
  have G1 : Hid (∀ W a a' k k', PsA W a L1 → PsA W a' L1 → Calls Try.prog 13 #[.slice a L1.length k, .slice a' L1.length k'] W fun e w' => e = .returned (.bool true) ∧ Below W.heap.size W w') := Lib.hid fun W a a' k k' h h' => gsame_true (w := W) a a' k k' L1 h h' (by omega)
  have G2 : Hid (∀ W a a' k k', PsA W a L2 → PsA W a' L2 → Calls Try.prog 13 #[.slice a L2.length k, .slice a' L2.length k'] W fun e w' => e = .returned (.bool true) ∧ Below W.heap.size W w') := Lib.hid fun W a a' k k' h h' => gsame_true (w := W) a a' k k' L2 h h' (by omega)
  clear K A hb hr hx hz hl l1 l2
  go_enter Try.func3, Try.ntmps3
  go_wp2_with fail
  refine (HAw.out _).mono ?_
  rintro e w1 ⟨rfl, hb1⟩
  have B1 := Lib.hid hb1
  clear hb1
  go_wp2_with fail
  refine (HS1.out _).mono ?_
  rintro e w2 ⟨rfl, hb2⟩
  have B2 := Lib.hid (up2 B1.out hb2)
  clear hb2
  go_wp2_with fail
  refine (HS2.out _).mono ?_
  rintro e w3 ⟨rfl, hb3⟩
  have B3 := Lib.hid (up2 B2.out hb3)
  clear hb3
  go_wp2_with fail
  refine (HB1.out _).mono ?_
  rintro e w4 ⟨a4, k4, rfl, hp4, hb4⟩
  have B4 := Lib.hid (up2 B3.out hb4)
  have P4 := Lib.hid hp4
  clear hb4 hp4
  go_wp2_with fail
  refine (HB2.out _).mono ?_
  rintro e w5 ⟨a5, k5, rfl, hp5, hb5⟩
  have B5 := Lib.hid (up2 B4.out hb5)
  have P45 := Lib.hid (P4.out.up hb5)
  have P5 := Lib.hid hp5
  clear hb5 hp5
  go_wp2_with fail
  refine (HE1.out _).mono ?_
  rintro e w6 ⟨a6, k6, rfl, hp6, hb6⟩
  have B6 := Lib.hid (up2 B5.out hb6)
  have P46 := Lib.hid (P45.out.up hb6)
  have P56 := Lib.hid (P5.out.up hb6)
  have P6 := Lib.hid hp6
  clear hb6 hp6
  go_wp2_with fail
  refine (HE2.out _).mono ?_
  rintro e w7 ⟨a7, k7, rfl, hp7, hb7⟩
  have B7 := Lib.hid (up2 B6.out hb7)
  have P47 := Lib.hid (P46.out.up hb7)
  have P57 := Lib.hid (P56.out.up hb7)
  have P67 := Lib.hid (P6.out.up hb7)
  have P7 := Lib.hid hp7
  clear hb7 hp7
  go_wp2_with fail
  refine (G1.out _ _ _ _ _ P47.out P57.out).mono ?_
  rintro e w8 ⟨rfl, hb8⟩
  have B8 := Lib.hid (up2 B7.out hb8)
  have P68 := Lib.hid (P67.out.up hb8)
  have P78 := Lib.hid (P7.out.up hb8)
  clear hb8
  go_wp2_with fail
  refine (G2.out _ _ _ _ _ P68.out P78.out).mono ?_
  rintro e w9 ⟨rfl, hb9⟩
  have B9 := Lib.hid (up2 B8.out hb9)
  clear hb9
  go_wp2_with fail
  go_ret
  exact ⟨rfl, B9.out⟩
end Go.Proofs.Ytiaocahcdbikhaa
