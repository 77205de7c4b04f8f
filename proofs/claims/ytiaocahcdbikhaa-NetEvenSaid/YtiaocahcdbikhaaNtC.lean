/- net: awake, over any that does as is asked. -/
import Derived.Test.YtiaocahcdbikhaaNtA
import Derived.Test.YtiaocahcdbikhaaRgB
namespace Go.Proofs.Ytiaocahcdbikhaa
open Go.RowKit

theorem three_at {L : List Po} {x y z : Po} (h : L = [x, y, z]) (i : Nat) (u : Po) (hu : L[i]? = some u) : (#[.int .i64 x.a, .int .i64 x.c, .int .i64 x.m, .int .i64 y.a, .int .i64 y.c, .int .i64 y.m, .int .i64 z.a, .int .i64 z.c, .int .i64 z.m] : Array Value)[i * 3]? = some (.int .i64 u.a) ∧ (#[.int .i64 x.a, .int .i64 x.c, .int .i64 x.m, .int .i64 y.a, .int .i64 y.c, .int .i64 y.m, .int .i64 z.a, .int .i64 z.c, .int .i64 z.m] : Array Value)[i * 3 + 1]? = some (.int .i64 u.c) ∧ (#[.int .i64 x.a, .int .i64 x.c, .int .i64 x.m, .int .i64 y.a, .int .i64 y.c, .int .i64 y.m, .int .i64 z.a, .int .i64 z.c, .int .i64 z.m] : Array Value)[i * 3 + 2]? = some (.int .i64 u.m) := by
  subst h
  match i, hu with
  | 0, hu => obtain rfl := Option.some.inj hu; exact ⟨rfl, rfl, rfl⟩
  | 1, hu => obtain rfl := Option.some.inj hu; exact ⟨rfl, rfl, rfl⟩
  | 2, hu => obtain rfl := Option.some.inj hu; exact ⟨rfl, rfl, rfl⟩
  | i + 3, hu => simp at hu
def Aw17 : Prop := ∀ W : World, Calls Try.prog 7 #[] W fun e w' => e = .returned (.bool true) ∧ Below W.heap.size W w'
theorem psa_fresh (w : World) (L : List Po) (cs : Array Value) (h : ∀ i x, L[i]? = some x → cs[i * 3]? = some (.int .i64 x.a) ∧ cs[i * 3 + 1]? = some (.int .i64 x.c) ∧ cs[i * 3 + 2]? = some (.int .i64 x.m)) : PsA (w.alloc (.cells cs 35)) (some ⟨w.heap.size, 0, none⟩) L := by
  right
  refine ⟨w.heap.size, 0, rfl, fun i x hx => ?_⟩
  obtain ⟨h0, h1, h2⟩ := h i x hx
  have hf := Has.fresh w 35 cs
  rw [Nat.zero_add]
  exact ⟨by rw [hf.cell]; exact h0, by rw [hf.cell]; exact h1, by rw [hf.cell]; exact h2⟩
def aL1 : List Po := [⟨1, 7, 20⟩, ⟨2, 7, 30⟩, ⟨3, 7, -50⟩]
def aL2 : List Po := [⟨0, 7, 50⟩, ⟨1, 7, -20⟩, ⟨2, 7, -30⟩]
theorem al1 : ntE 7 100 80 0 50 = 0 ∧ ntL 7 100 80 0 50 = aL1 := ⟨by rfl, by rfl⟩
theorem al2 : ntE 7 100 130 50 0 = 0 ∧ ntL 7 100 130 50 0 = aL2 := ⟨by rfl, by rfl⟩
theorem al3 : ntE 40 0 0 1 0 = 1 := by rfl
set_option maxRecDepth 100000 in
set_option maxHeartbeats 8000000 in
theorem awake17_any (K : NtK) : Aw17 := by
  intro w
  have H1 := Lib.hid (fun (W : World) => K.sides W 100 80 (by unfold Am; omega) (by unfold Am; omega))
  rw [show sidL 100 80 = 20 by rfl, show sidA 100 80 = 0 by rfl, show sidE 100 80 = 0 by rfl] at H1
  have H2 := Lib.hid (fun (W : World) => K.sides W 80 100 (by unfold Am; omega) (by unfold Am; omega))
  rw [show sidL 80 100 = 0 by rfl, show sidA 80 100 = 20 by rfl, show sidE 80 100 = 0 by rfl] at H2
  have H3 := Lib.hid (fun (W : World) => K.sides W (-1) 0 (by unfold Am; omega) (by unfold Am; omega))
  rw [show sidL (-1) 0 = 0 by rfl, show sidA (-1) 0 = 0 by rfl, show sidE (-1) 0 = 1 by rfl] at H3
  have H4 : Hid (∀ W, Calls Try.prog 12 #[.int .i64 7, .int .i64 100, .int .i64 80, .int .i64 50] W (NtTd W aL1)) := Lib.hid fun W => by
    have := K.earn W 7 100 80 50 (by unfold Am; omega) (by unfold Am; omega) (by unfold Am; omega)
    rw [al1.1, al1.2] at this
    exact this.mono fun _ _ z => z.told
  have H5 : Hid (∀ W, Calls Try.prog 10 #[.int .i64 7, .int .i64 100, .int .i64 130, .int .i64 50] W (NtTd W aL2)) := Lib.hid fun W => by
    have := K.bill W 7 100 130 50 (by unfold Am; omega) (by unfold Am; omega) (by unfold Am; omega)
    rw [al2.1, al2.2] at this
    exact this.mono fun _ _ z => z.told
  have H6 : Hid (∀ W, Calls Try.prog 10 #[.int .i64 40, .int .i64 0, .int .i64 0, .int .i64 1] W fun e w' => e = .returned (.tuple #[.slice none 0 0, .int .i64 1]) ∧ Below W.heap.size W w') := Lib.hid fun W => by
    have := K.bill W 40 0 0 1 (by unfold Am; omega) (by unfold Am; omega) (by unfold Am; omega)
    rw [al3] at this
    refine this.mono fun _ _ z => ?_
    obtain ⟨hb, ⟨_, he⟩ | ⟨q, _⟩⟩ := z
    · exact ⟨he, hb⟩
    · cases q
  unfold NtTd at H4 H5
  rw [show aL1.length = 3 from rfl] at H4
  rw [show aL2.length = 3 from rfl] at H5
  have HS := Lib.hid (fun (W : World) (a b : Option Addr) (c c' : Nat) (L : List Po) (h : PsA W a L) (h' : PsA W b L) (q : L.length ≤ 32) => gsame_true (w := W) a b c c' L h h' q)
  clear K
  go_enter Try.func7, Try.ntmps7
  go_wp2_with fail
  refine (H1.out _).mono ?_
  rintro e w1 ⟨rfl, hb⟩
  have B1 := Lib.hid hb
  clear hb
  go_wp2_with fail
  refine (H2.out _).mono ?_
  rintro e w2 ⟨rfl, hb⟩
  have B2 := Lib.hid (up2 B1.out hb)
  clear hb
  go_wp2_with fail
  refine (H3.out _).mono ?_
  rintro e w3 ⟨rfl, hb⟩
  have B3 := Lib.hid (up2 B2.out hb)
  clear hb
  go_wp2_with fail
  refine (H4.out _).mono ?_
  rintro e w4 ⟨a4, c4, rfl, hp, hb⟩
  have B4 := Lib.hid (up2 B3.out hb)
  have P4 := Lib.hid hp
  clear hb hp
  go_wp2_with fail
  refine (H5.out _).mono ?_
  rintro e w5 ⟨a5, c5, rfl, hp, hb⟩
  have B5 := Lib.hid (up2 B4.out hb)
  have P45 := Lib.hid (P4.out.up hb)
  have P5 := Lib.hid hp
  clear hb hp
  go_wp2_with fail
  refine (H6.out _).mono ?_
  rintro e w6 ⟨rfl, hb⟩
  have B6 := Lib.hid (up2 B5.out hb)
  have P46 := Lib.hid (P45.out.up hb)
  have P56 := Lib.hid (P5.out.up hb)
  clear hb
  go_wp2_with fail
  have hl1 := psa_fresh w6 aL1 #[.int .i64 1, .int .i64 7, .int .i64 20, .int .i64 2, .int .i64 7, .int .i64 30, .int .i64 3, .int .i64 7, .int .i64 (-50)] (three_at rfl)
  refine (HS.out _ a4 (some ⟨w6.heap.size, 0, none⟩) c4 3 aL1 (P46.out.up (boxed _ _)) hl1 (by decide)).mono ?_
  rintro e w7 ⟨rfl, hb⟩
  have B7 := Lib.hid (up2 B6.out (up2 (boxed _ _) hb))
  have P57 := Lib.hid ((P56.out.up (boxed _ _)).up hb)
  clear hb hl1
  go_wp2_with fail
  have hl2 := psa_fresh w7 aL2 #[.int .i64 0, .int .i64 7, .int .i64 50, .int .i64 1, .int .i64 7, .int .i64 (-20), .int .i64 2, .int .i64 7, .int .i64 (-30)] (three_at rfl)
  refine (HS.out _ a5 (some ⟨w7.heap.size, 0, none⟩) c5 3 aL2 (P57.out.up (boxed _ _)) hl2 (by decide)).mono ?_
  rintro e w8 ⟨rfl, hb⟩
  have B8 := Lib.hid (up2 B7.out (up2 (boxed _ _) hb))
  clear hb hl2
  go_wp2_with fail
  go_ret
  exact ⟨rfl, B8.out⟩
end Go.Proofs.Ytiaocahcdbikhaa
