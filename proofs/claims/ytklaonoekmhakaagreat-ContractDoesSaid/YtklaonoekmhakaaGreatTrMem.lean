/- Through, Duty. -/
import Derived.Test.YtklaonoekmhakaaGreatBc
import Derived.Test.YtklaonoekmhakaaGreatTrMath
import Derived.Test.YtklaonoekmhakaaGreatCfS
namespace Go.Proofs.YtklaonoekmhakaaGreat
open Go.RowKit

section
variable {w : World} {B p : Nat} {d : Dt} {E : List Tl} {la : Option Addr} {lc : Nat} {tv : Value}
/-- what Through answers -/
def ThrR (w : World) (d : Dt) (E : List Tl) (day : Int) (e : Ending) (w' : World) : Prop := e = .returned (.tuple #[.int .i64 (thrV d E day), .int .i64 (thrW d)]) ∧ Below w.heap.size w w'
set_option maxRecDepth 100000 in
set_option maxHeartbeats 4000000 in
theorem thr_mile (h : TgX w B p d E la lc tv) (day : Int) (m2 : d.me = 2) : Calls Tryz.prog 87 #[.pointer (some ⟨p, 0, none⟩), .int .i64 day] w (ThrR w d E day) := by
  unfold ThrR thrV thrW
  rw [if_pos m2, if_pos m2]
  have c3 := h.has.cell 3
  have c4 := h.has.cell 4
  have c5 := h.has.cell 5
  simp at c3 c4 c5
  rw [m2] at c3
  have HG := Lib.hid (fun (W : World) (q : Below w.heap.size w W) => great_any (h.up q) day)
  generalize d.fi = fi at c4
  generalize d.la = la at c5
  clear h m2
  go_enter Tryz.func87, Tryz.ntmps87
  go_wp2_with fail
  go_quiet (fail)
  go_wp2_with fail
  refine (HG.out _ (blw (Below.refl _ _) _)).mono ?_
  rintro e w1 ⟨rfl, hb⟩
  have HB := Lib.hid (up2 (blw (Below.refl _ _) _) hb)
  clear hb c3 c4 c5
  go_wp2_with fail
  go_ret2
  exact ⟨rfl, HB.out⟩
set_option maxRecDepth 100000 in
set_option maxHeartbeats 4000000 in
theorem thr_usage (h : TgX w B p d E la lc tv) (day : Int) (m3 : d.me = 3) : Calls Tryz.prog 87 #[.pointer (some ⟨p, 0, none⟩), .int .i64 day] w (ThrR w d E day) := by
  have hv : thrV d E day = min (thrS day E) d.un := by unfold thrV; rw [if_neg (by omega), if_pos m3]
  have hw : thrW d = d.un := by unfold thrW; rw [if_neg (by omega), if_pos m3]
  unfold ThrR
  rw [hv, hw]
  clear hv hw
  have c2 := h.has.cell 2
  have c3 := h.has.cell 3
  have c4 := h.has.cell 4
  have c5 := h.has.cell 5
  simp at c2 c3 c4 c5
  rw [m3] at c3
  have HG := Lib.hid (fun (W : World) (q : Below w.heap.size w W) => tog_any (h.up q) day)
  generalize d.fi = fi at c4
  generalize d.la = la at c5
  generalize d.un = un at c2
  generalize thrS day E = s at HG
  have HC := Lib.hid c2
  clear h m3 c2
  go_enter Tryz.func87, Tryz.ntmps87
  go_wp2_with fail
  go_quiet (fail)
  go_wp2_with fail
  obtain ⟨W0, hW0⟩ : ∃ W0, W0 = w.drewN nq := ⟨_, rfl⟩
  have HB0 : Hid (Below w.heap.size w W0) := by rw [hW0]; exact Lib.hid (blw (Below.refl _ _) _)
  rw [← hW0]
  have d2 : W0.cell? ⟨p, 2, none⟩ = some (.int .i64 un) := kcell HB0.out HC.out
  have HCall := Lib.hid (HG.out W0.drew HB0.out.drew)
  clear hW0 c3 c4 c5
  have K0 : Hid (W0.drew.cell? ⟨p, 2, none⟩ = some (.int .i64 un)) := d2
  go_region_held3 (fun w' => w'.cell? ⟨p, 2, none⟩ = some (.int .i64 un))
    (first | (go_keep; done) | (with_reducible exact K0.out) | (with_reducible exact kK1.out))
    (first | (go_at_call 120; (with_reducible refine (HCall.out).mono ?_); rintro e w2 ⟨rfl, hb2⟩; have kK1 : Hid (w2.cell? ⟨p, 2, none⟩ = some (.int .i64 un)) := kcell hb2 K0.out; have kB2 := Lib.hid (up2 HB0.out.drew hb2); clear hb2))
  all_goals
    go_wp2_with fail
    go_ret2
    exact ⟨rfl, kB2.out⟩
theorem clamp_is {day fi la : Int} (h : fi ≤ la) : clampV day (fi - 1) la - (fi - 1) = if day < fi then 0 else if la < day then la - fi + 1 else day - fi + 1 := by
  unfold clampV
  split <;> split <;> (try split) <;> omega
set_option maxRecDepth 100000 in
set_option maxHeartbeats 4000000 in
theorem thr_ratable (h : TgX w B p d E la lc tv) (day : Int) (m0 : d.me = 0) : Calls Tryz.prog 87 #[.pointer (some ⟨p, 0, none⟩), .int .i64 day] w (ThrR w d E day) := by
  have hd := dtB_iff.1 h.fine.may
  have hv : thrV d E day = clampV day (d.fi - 1) d.la - (d.fi - 1) := by unfold thrV; rw [if_neg (by omega), if_neg (by omega), if_neg (by omega), clamp_is hd.2.2.2.2.2]
  have hw : thrW d = d.la - (d.fi - 1) := by unfold thrW; rw [if_neg (by omega), if_neg (by omega), if_neg (by omega)]; omega
  unfold ThrR
  rw [hv, hw]
  have c3 := h.has.cell 3
  have c4 := h.has.cell 4
  have c5 := h.has.cell 5
  simp at c3 c4 c5
  rw [m0] at c3
  generalize d.fi = fi at c4 hd
  generalize d.la = la at c5 hd
  have e1 : IntKind.i64.wrap (fi - 1) = fi - 1 := IntWalk.i64_in _ (by omega)
  have e2 : IntKind.i64.wrap (la - (fi - 1)) = la - (fi - 1) := IntWalk.i64_in _ (by omega)
  have hc := clamp_is (day := day) hd.2.2.2.2.2
  have hc2 : 0 ≤ clampV day (fi - 1) la - (fi - 1) ∧ clampV day (fi - 1) la - (fi - 1) ≤ 1000000 := by rw [hc]; split <;> (try split) <;> omega
  have HCl := Lib.hid (fun (W : World) => clamp_any day (fi - 1) la W)
  generalize clampV day (fi - 1) la = cv at HCl hc2
  have e3 : IntKind.i64.wrap (cv - (fi - 1)) = cv - (fi - 1) := IntWalk.i64_in _ (by omega)
  clear h m0 hv hw hc hc2 hd
  go_enter Tryz.func87, Tryz.ntmps87
  go_wp2_with fail
  go_quiet (fail)
  go_wp2_with fail
  refine (HCl.out _).mono ?_
  rintro e w1 ⟨rfl, rfl⟩
  go_wp2_with fail
  go_ret2
  exact ⟨rfl, blw (Below.refl _ _) _⟩
set_option maxRecDepth 100000 in
set_option maxHeartbeats 4000000 in
theorem thr_point (h : TgX w B p d E la lc tv) (day : Int) (m1 : d.me = 1) : Calls Tryz.prog 87 #[.pointer (some ⟨p, 0, none⟩), .int .i64 day] w (ThrR w d E day) := by
  have hd := dtB_iff.1 h.fine.may
  have hv : thrV d E day = clampV day (d.fi - 1) d.fi - (d.fi - 1) := by
    unfold thrV; rw [if_neg (by omega), if_neg (by omega), if_pos m1, clamp_is (Int.le_refl _)]
    split
    · rfl
    · split <;> omega
  have hw : thrW d = d.fi - (d.fi - 1) := by unfold thrW; rw [if_neg (by omega), if_neg (by omega), if_pos m1]; omega
  unfold ThrR
  rw [hv, hw]
  have c3 := h.has.cell 3
  have c4 := h.has.cell 4
  have c5 := h.has.cell 5
  simp at c3 c4 c5
  rw [m1] at c3
  generalize d.fi = fi at c4 hd
  generalize d.la = la at c5 hd
  have e1 : IntKind.i64.wrap (fi - 1) = fi - 1 := IntWalk.i64_in _ (by omega)
  have e2 : IntKind.i64.wrap (fi - (fi - 1)) = fi - (fi - 1) := IntWalk.i64_in _ (by omega)
  have hc := clamp_is (day := day) (Int.le_refl fi)
  have hc2 : 0 ≤ clampV day (fi - 1) fi - (fi - 1) ∧ clampV day (fi - 1) fi - (fi - 1) ≤ 1000000 := by rw [hc]; split <;> (try split) <;> omega
  have HCl := Lib.hid (fun (W : World) => clamp_any day (fi - 1) fi W)
  generalize clampV day (fi - 1) fi = cv at HCl hc2
  have e3 : IntKind.i64.wrap (cv - (fi - 1)) = cv - (fi - 1) := IntWalk.i64_in _ (by omega)
  clear h m1 hv hw hc hc2 hd
  go_enter Tryz.func87, Tryz.ntmps87
  go_wp2_with fail
  go_quiet (fail)
  go_wp2_with fail
  refine (HCl.out _).mono ?_
  rintro e w1 ⟨rfl, rfl⟩
  go_wp2_with fail
  go_ret2
  exact ⟨rfl, blw (Below.refl _ _) _⟩
theorem thr_any (h : TgX w B p d E la lc tv) (day : Int) : Calls Tryz.prog 87 #[.pointer (some ⟨p, 0, none⟩), .int .i64 day] w (ThrR w d E day) := by
  have hd := dtB_iff.1 h.fine.may
  by_cases m2 : d.me = 2
  · exact thr_mile h day m2
  · by_cases m3 : d.me = 3
    · exact thr_usage h day m3
    · by_cases m1 : d.me = 1
      · exact thr_point h day m1
      · exact thr_ratable h day (by omega)
end
end Go.Proofs.YtklaonoekmhakaaGreat

namespace Go.Proofs.YtklaonoekmhakaaGreat
open Go.RowKit

section
variable {w : World} {B p : Nat} {d : Dt} {E : List Tl} {la : Option Addr} {lc : Nat} {tv : Value}
set_option maxRecDepth 100000 in
set_option maxHeartbeats 2000000 in
theorem duty_any (h : TgX w B p d E la lc tv) (h2 : d.ls.length ≤ 17592186044416) : Calls Tryz.prog 49 #[.pointer (some ⟨p, 0, none⟩)] w (CopR14 w d) := by
  have hcp := fun (W : World) (q : Below w.heap.size w W) => copied_any d la lc W h2 (h.lines.1.up q) h.lines.2
  have hh := h.has
  unfold CopR14 at hcp ⊢
  obtain ⟨ls, al, un, me, fi, la2⟩ := d
  unfold Dt.val at hcp ⊢
  simp only at hcp hh ⊢
  obtain ⟨n, hn⟩ : ∃ n, n = ls.length := ⟨_, rfl⟩
  rw [← hn] at hcp hh ⊢
  have c0 := hh.cell 0
  have c1 := hh.cell 1
  have c2 := hh.cell 2
  have c3 := hh.cell 3
  have c4 := hh.cell 4
  have c5 := hh.cell 5
  simp at c0 c1 c2 c3 c4 c5
  have HC := Lib.hid hcp
  have hlt := hh.lt
  clear hcp hh h h2 hn
  go_enter Tryz.func49, Tryz.ntmps49
  go_wp2_with fail
  have HY := Lib.hid (Has.fresh w 51 #[.slice none 0 0, .int .i64 0, .int .i64 0, .int .i64 0, .int .i64 0, .int .i64 0])
  refine (HC.out _ (boxed _ _)).mono ?_
  rintro e w3 ⟨a', c', rfl, hown, hb⟩
  have hy := HY.out.up hb
  have yf0 := hy.free 0
  have yf1 := hy.free 1
  have yf2 := hy.free 2
  have yf3 := hy.free 3
  have yf4 := hy.free 4
  have yf5 := hy.free 5
  have y0 := hy.cell 0
  have y1 := hy.cell 1
  have y2 := hy.cell 2
  have y3 := hy.cell 3
  have y4 := hy.cell 4
  have y5 := hy.cell 5
  have HY3 := Lib.hid hy
  have HO := Lib.hid hown
  have HB := Lib.hid (up2 (boxed _ _) hb)
  clear hy hown hb c0 c1 c2 c3 c4 c5 hlt
  simp at y0 y1 y2 y3 y4 y5
  go_wp2_with fail
  obtain ⟨Wf, hWf⟩ : ∃ Wf, Wf = put6 w3 w.heap.size (.slice a' n c') (.int .i64 al) (.int .i64 un) (.int .i64 me) (.int .i64 fi) (.int .i64 la2) := ⟨_, rfl⟩
  have g2 : w3.grownBy Wf (some w.heap.size) := by rw [hWf]; exact put6_grown _ _ _ _ _ _ _ _
  have hf : Has Wf w.heap.size 51 #[.slice a' n c', .int .i64 al, .int .i64 un, .int .i64 me, .int .i64 fi, .int .i64 la2] := by rw [hWf]; exact put6_has HY3.out _ _ _ _ _ _
  have hof := own_beside HO.out HY3.out (by decide) g2
  have r0 := hf.cell 0
  have r1 := hf.cell 1
  have r2 := hf.cell 2
  have r3 := hf.cell 3
  have r4 := hf.cell 4
  have r5 := hf.cell 5
  have hbf := HB.out.grown g2 HB.out.size (fun j hj => by injection hj with hj; omega)
  unfold put6 at hWf
  rw [← hWf]
  simp at r0 r1 r2 r3 r4 r5
  exact bodyPost_ret (v := .agg #[.slice a' n c', .int .i64 al, .int .i64 un, .int .i64 me, .int .i64 fi, .int .i64 la2]) (by simp [results, Tryz.results49, go_sem, r0, r1, r2, r3, r4, r5]) rfl ⟨a', c', rfl, hof, hbf⟩
/-- what isn't told leaves all as it was -/
def TnoR (w : World) (X : Int) (e : Ending) (w' : World) : Prop := e = .returned (.int .i64 X) ∧ Below w.heap.size w w'
set_option maxRecDepth 100000 in
set_option maxHeartbeats 1000000 in
theorem told_no (h : TgX w B p d E la lc tv) (day n : Int) (hn : Am n) {X : Int} (hX : telE d.me E day n = X) (h0 : X ≠ 0) : Calls Tryz.prog 62 #[.pointer (some ⟨p, 0, none⟩), .int .i64 day, .int .i64 n] w (TnoR w X) := by
  unfold TnoR
  have HC := Lib.hid (check_any14 h day n hn)
  rw [hX] at HC
  have q' : (X != 0) = true := by simpa using h0
  clear h hX hn h0
  go_enter Tryz.func62, Tryz.ntmps62
  go_wp2_with fail
  refine HC.out.mono ?_
  rintro e w1 ⟨rfl, hb⟩
  have HB := Lib.hid hb
  clear hb
  go_wp2_with fail
  go_ret
  exact ⟨rfl, HB.out⟩
end
section
variable {w0 w : World} {p : Nat} {d : Dt} {E : List Tl}
theorem Tg.no (h : Tg w0 w p d E) (day n : Int) (hn : Am n) {X : Int} (hX : telE d.me E day n = X) (h0 : X ≠ 0) : Calls Tryz.prog 62 #[.pointer (some ⟨p, 0, none⟩), .int .i64 day, .int .i64 n] w (TnoR w X) := by
  obtain ⟨⟨la, lc, tv, hx⟩, _⟩ := h; exact told_no hx day n hn hX h0
theorem Tg.duty (h : Tg w0 w p d E) (h2 : d.ls.length ≤ 17592186044416) : Calls Tryz.prog 49 #[.pointer (some ⟨p, 0, none⟩)] w (CopR14 w d) := by
  obtain ⟨⟨la, lc, tv, hx⟩, _⟩ := h; exact duty_any hx h2
end
def tD1 : Dt := ⟨[], 0, 1, 0, 10, 19⟩
def tD2 : Dt := ⟨[], 0, 1, 2, 10, 19⟩
def tD3 : Dt := ⟨[], 0, 0, 0, 1, 1⟩
def tE2 : List Tl := [(5, 3000)]
end Go.Proofs.YtklaonoekmhakaaGreat

namespace Go.Proofs.YtklaonoekmhakaaGreat
open Go.RowKit

def spC (x : Sp) : List Value := [.int .i64 x.fr, .int .i64 x.og, .int .i64 x.ba, .int .i64 x.re]
theorem sp_len (x : Sp) : (spC x).length = 4 := rfl
theorem sp_one (l : List Sp) : ∀ u ∈ l.flatMap spC, u.oneCell' = true := fun u hu => by
  obtain ⟨x, _, hx⟩ := List.mem_flatMap.1 hu
  simp [spC] at hx
  rcases hx with rfl | rfl | rfl | rfl <;> rfl
abbrev SpA (w : World) (a : Option Addr) (l : List Sp) : Prop := Rws spC 4 w a l
theorem sp_at {w : World} {a : Option Addr} {l : List Sp} (h : SpA w a l) {j : Nat} {x : Sp} (hx : l[j]? = some x) : ∃ b o, a = some ⟨b, o, none⟩ ∧ w.cell? ⟨b, o + j * 4, none⟩ = some (.int .i64 x.fr) ∧ w.cell? ⟨b, o + j * 4 + 1, none⟩ = some (.int .i64 x.og) ∧ w.cell? ⟨b, o + j * 4 + 2, none⟩ = some (.int .i64 x.ba) ∧ w.cell? ⟨b, o + j * 4 + 3, none⟩ = some (.int .i64 x.re) := by
  rcases h with z | ⟨b, o, z, hz⟩
  · rw [z] at hx; simp at hx
  · exact ⟨b, o, z, hz j x hx 0 _ rfl, hz j x hx 1 _ rfl, hz j x hx 2 _ rfl, hz j x hx 3 _ rfl⟩
/-- blocks of other types than a track's stay -/
def Oth15 (w w' : World) : Prop := ∀ (g T : Nat) (cs : Array Value), Has w g T cs → T ≠ 154 → T ≠ 165 → T ≠ 101 → T ≠ 147 → Has w' g T cs
theorem Oth15.of {w w' : World} (h : Below w.heap.size w w') : Oth15 w w' := fun _ _ _ hh _ _ _ _ => hh.up h
theorem Oth15.refl (w : World) : Oth15 w w := fun _ _ _ hh _ _ _ _ => hh
theorem Oth15.trans {w w1 w2 : World} (h : Oth15 w w1) (h2 : Oth15 w1 w2) : Oth15 w w2 := fun g T cs hh a b c d => h2 g T cs (h g T cs hh a b c d) a b c d
theorem Oth15.own {w w' : World} (h : Oth15 w w') {B T z n : Nat} {v : Value} {xs : List Value} (ho : w.ownsRow B T z v n xs) (h1 : T ≠ 154) (h2 : T ≠ 165) (h3 : T ≠ 101) (h4 : T ≠ 147) : w'.ownsRow B T z v n xs := by
  refine ⟨ho.1, ?_⟩
  rcases ho.2 with q | ⟨g, cap, cur, e, q3, q4, q5⟩
  · exact .inl q
  · exact .inr ⟨g, cap, cur, e, q3, h g T cur q4 h1 h2 h3 h4, q5⟩
theorem Oth15.cell {w w' : World} (h : Oth15 w w') {b T : Nat} {cs : Array Value} (hh : Has w b T cs) (h1 : T ≠ 154) (h2 : T ≠ 165) (h3 : T ≠ 101) (h4 : T ≠ 147) {k : Nat} {v : Value} (hk : w.cell? ⟨b, k, none⟩ = some v) : w'.cell? ⟨b, k, none⟩ = some v := by
  rw [(h b T cs hh h1 h2 h3 h4).cell, ← hh.cell]; exact hk
/-- a row's block turns, of one of these types -/
theorem Oth15.row {w w' : World} {T B n z : Nat} {v : Value} {xs : List Value} (ho : w.ownsRow B T z v n xs) (hT : T = 154 ∨ T = 165 ∨ T = 101 ∨ T = 147) (q : w.grownBy w' v.ownBlock) : Oth15 w w' := fun g _ _ hh h1 h2 h3 h4 =>
  (q.block g hh.lt (fun e => own_ne ho hh (fun e2 => by subst e2; rcases hT with hT | hT | hT | hT <;> contradiction) e.symm)).trans hh
theorem Oth15.put {w : World} {p T : Nat} {cs : Array Value} (hp : Has w p T cs) (hT : T = 154 ∨ T = 165 ∨ T = 101 ∨ T = 147) (i : Nat) (v : Value) : Oth15 w (w.setCell ⟨p, i, none⟩ v) := fun g _ cs' hh h1 h2 h3 h4 =>
  ((grown_set w p i v).block g hh.lt (fun e => hh.ne hp (fun e2 => by subst e2; rcases hT with hT | hT | hT | hT <;> contradiction) (by injection e))).trans hh
/-- a track: its struct lies in block b, its log's in block p, all that may turn in blocks of O -/
structure TkX (w : World) (O : Nat → Prop) (b p : Nat) (d : Dt) (E : List Tl) (L : List Sp) (la : Option Addr) (lc : Nat) (tv sv : Value) : Prop where
  log : TgX w 0 p d E la lc tv
  has : Has w b 101 #[.pointer (some ⟨p, 0, none⟩), sv]
  own : w.ownsRow 0 147 4 sv L.length (L.flatMap spC)
  fine : FineS L
  inb : O b
  inp : O p
  int : ∀ g, tv.ownBlock = some g → O g
  ins : ∀ g, sv.ownBlock = some g → O g
  lt : ∀ g, O g → g < w.heap.size
  un : d.un ≤ 9223372036854775807
def Tk (w : World) (O : Nat → Prop) (b : Nat) (d : Dt) (E : List Tl) (L : List Sp) : Prop := ∃ p la lc tv sv, TkX w O b p d E L la lc tv sv
/-- a track goes on, and nothing else has turned -/
def TkR (w : World) (O : Nat → Prop) (b : Nat) (d : Dt) (E : List Tl) (L : List Sp) (w' : World) : Prop := Tk w' (Nw O w w') b d E L ∧ Kp O w w' ∧ Oth15 w w'
section
variable {w w' : World} {O O' : Nat → Prop} {b p : Nat} {d : Dt} {E : List Tl} {L : List Sp} {la : Option Addr} {lc : Nat} {tv sv : Value}
theorem TkX.up (h : TkX w O b p d E L la lc tv sv) (q : Below w.heap.size w w') : TkX w' O b p d E L la lc tv sv :=
  ⟨h.log.up q, h.has.up q, own_up h.own q, h.fine, h.inb, h.inp, h.int, h.ins, fun g hg => Nat.lt_of_lt_of_le (h.lt g hg) q.size, h.un⟩
theorem Tk.up (h : Tk w O b d E L) (q : Below w.heap.size w w') : Tk w' O b d E L := by obtain ⟨p, la, lc, tv, sv, h⟩ := h; exact ⟨p, la, lc, tv, sv, h.up q⟩
theorem Tk.lt (h : Tk w O b d E L) : ∀ g, O g → g < w.heap.size := by obtain ⟨p, la, lc, tv, sv, h⟩ := h; exact h.lt
theorem Tk.inb (h : Tk w O b d E L) : O b := by obtain ⟨p, la, lc, tv, sv, h⟩ := h; exact h.inb
theorem own_keep15 {T n : Nat} {B z : Nat} {v : Value} {xs : List Value} (h : w.ownsRow B T z v n xs) (hk : ∀ g, v.ownBlock = some g → w'.heap[g]? = w.heap[g]?) : w'.ownsRow B T z v n xs := by
  refine ⟨h.1, ?_⟩
  rcases h.2 with q | ⟨g, cap, cur, e, q3, q4, q5⟩
  · exact .inl q
  · exact .inr ⟨g, cap, cur, e, q3, by rw [hk g (by rw [e]; rfl)]; exact q4, q5⟩
/-- what turns elsewhere leaves a track -/
theorem TkX.keep (h : TkX w O b p d E L la lc tv sv) (hk : Kp O' w w') (ho : Oth15 w w') (hn : ∀ g, O g → ¬ O' g) : TkX w' O b p d E L la lc tv sv := by
  have hb : ∀ g, O g → w'.heap[g]? = w.heap[g]? := fun g hg => hk.block g (h.lt g hg) (hn g hg)
  exact ⟨⟨(hb p h.inp).trans h.log.has, ho.own h.log.lns (by decide) (by decide) (by decide) (by decide), own_keep15 h.log.own fun g hg => hb g (h.int g hg), h.log.fine, h.log.nil0⟩, (hb b h.inb).trans h.has, own_keep15 h.own fun g hg => hb g (h.ins g hg), h.fine, h.inb, h.inp, h.int, h.ins, fun g hg => Nat.lt_of_lt_of_le (h.lt g hg) hk.size, h.un⟩
theorem Tk.keep (h : Tk w O b d E L) (hk : Kp O' w w') (ho : Oth15 w w') (hn : ∀ g, O g → ¬ O' g) : Tk w' O b d E L := by obtain ⟨p, la, lc, tv, sv, h⟩ := h; exact ⟨p, la, lc, tv, sv, h.keep hk ho hn⟩
theorem TkX.mono (h : TkX w O b p d E L la lc tv sv) (hs : ∀ g, O g → O' g) (hl : ∀ g, O' g → g < w.heap.size) : TkX w O' b p d E L la lc tv sv :=
  ⟨h.log, h.has, h.own, h.fine, hs _ h.inb, hs _ h.inp, fun g hg => hs _ (h.int g hg), fun g hg => hs _ (h.ins g hg), hl, h.un⟩
theorem Tk.mono (h : Tk w O b d E L) (hs : ∀ g, O g → O' g) (hl : ∀ g, O' g → g < w.heap.size) : Tk w O' b d E L := by obtain ⟨p, la, lc, tv, sv, h⟩ := h; exact ⟨p, la, lc, tv, sv, h.mono hs hl⟩
theorem TkR.same (h : Tk w O b d E L) (q : Below w.heap.size w w') : TkR w O b d E L w' :=
  ⟨(h.up q).mono (fun _ hg => .inl hg) fun g hg => hg.elim (fun z => Nat.lt_of_lt_of_le (h.lt g z) q.size) fun z => z.2, Kp.of q, Oth15.of q⟩
theorem TkX.row (h : TkX w O b p d E L la lc tv sv) : ∃ a c, sv = .slice a L.length c ∧ SpA w a L := by
  obtain ⟨a, c, e, _⟩ := own_form3 h.own
  subst e
  exact ⟨a, c, rfl, (own_rws sp_len h.own rfl).1⟩
end
end Go.Proofs.YtklaonoekmhakaaGreat
