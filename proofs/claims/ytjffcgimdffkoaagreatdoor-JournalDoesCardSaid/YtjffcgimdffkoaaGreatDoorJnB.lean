/- Halves of a store: place, other, head. -/
import Derived.Test.YtjffcgimdffkoaaGreatDoorRcMath
import Derived.Test.YtjffcgimdffkoaaGreatDoorJnSure
namespace Go.Proofs.YtjffcgimdffkoaaGreatDoor
open Go.RowKit

/-- a half's cells: its store, which, how many blocks -/
def hv (p h n : Nat) : Array Value := #[.pointer (some ⟨p, 0, none⟩), .int .i64 (h : Int), .int .i64 (n : Int)]

set_option maxHeartbeats 400000 in
theorem place_any (w : World) (p h n a : Nat) (hh : h ≤ 1) (hn : n ≤ 4096) (ha : a ≤ 100000) :
    Calls Tryz.prog 72 #[.agg (hv p h n), .int .i64 (a : Int)] w fun e w' => e = .returned (.int .i64 ((1 + h * n + a : Nat) : Int)) ∧ Below w.heap.size w w' := by
  have h0 : 0 ≤ (h : Int) * n := by have := Nat.zero_le (h * n); omega
  have h1 : (h : Int) * n ≤ 4096 := by have := Nat.mul_le_mul hh hn; omega
  unfold hv
  go_enter Tryz.func72, Tryz.ntmps72
  go_wp2
  go_ret
  exact ⟨by congr 2, boxed _ _⟩

set_option maxHeartbeats 400000 in
theorem other_any (w : World) (p h n : Nat) (hh : h ≤ 1) :
    Calls Tryz.prog 38 #[.agg (hv p h n)] w fun e w' => e = .returned (.agg (hv p (1 - h) n)) ∧ Below w.heap.size w w' := by
  have e : ((1 - h : Nat) : Int) = 1 - (h : Int) := by omega
  have E := Lib.hid e
  clear e
  unfold hv
  rw [E.out]
  clear E
  go_enter Tryz.func38, Tryz.ntmps38
  go_wp2
  exact bodyPost_ret (v := .agg #[.pointer (some ⟨p, 0, none⟩), .int .i64 (1 - (h : Int)), .int .i64 (n : Int)]) (by simp [results, Tryz.results38, go_sem]) rfl ⟨rfl, ((boxed _ _).alloc (by simp) _)⟩

theorem rep_any (w : World) (k : Nat) (hk : k ≤ 1000) (K : Int) (hK : K = (k : Int)) :
    Calls Tryz.prog 52 #[.string ⟨#[0]⟩, .int .i64 K] w fun e w' => e = .returned (.string (str (List.replicate k 0))) ∧ Below w.heap.size w w' := by
  subst hK
  refine (Tryz.strings_Repeat ⟨#[0]⟩ k w (by omega) (by show 1 * k ≤ _; omega)).mono ?_
  rintro e w2 ⟨rfl, hb2⟩
  rw [show Lib.repeatL (⟨#[0]⟩ : ByteArray).data.toList k = List.replicate k 0 from repeat_zero k]
  exact ⟨rfl, hb2⟩
theorem mark_head (h : Nat) : (⟨#[UInt8.ofNat h]⟩ : ByteArray) ++ str (List.replicate 63 0) = mark0 h := by
  rw [show (⟨#[UInt8.ofNat h]⟩ : ByteArray) = str [UInt8.ofNat h] from rfl, str_app]
  rfl
theorem bcell {W w1 : World} (hb : Below W.heap.size W w1) : (∀ b o, b < W.heap.size → w1.cell? ⟨b, o, none⟩ = W.cell? ⟨b, o, none⟩) ∧ (∀ b o, b < W.heap.size → w1.frozen? ⟨b, o, none⟩ = W.frozen? ⟨b, o, none⟩) :=
  ⟨fun b o h => hb.cell (p := ⟨b, o, none⟩) h, fun b o h => hb.frozen (p := ⟨b, o, none⟩) h⟩

theorem lots {w W w2 : World} (h : Below w.heap.size w W) (k : Below W.heap.size W w2) : Below w.heap.size w w2 := h.trans (k.mono h.size)
set_option maxRecDepth 100000 in
set_option maxHeartbeats 1000000 in
theorem head_half (w : World) (p h n : Nat) (hh : h ≤ 1) :
    Calls Tryz.prog 47 #[.agg (hv p h n)] w fun e w' => e = .returned (.string (mark0 h)) ∧ Below w.heap.size w w' := by
  have h0 : IntKind.u8.wrap (h : Int) = (h : Int) := by
    have : h = 0 ∨ h = 1 := by omega
    rcases this with rfl | rfl <;> rfl
  have hcv : ∀ (W : World) (g : Nat), W.cell? ⟨g, 0, none⟩ = some (.int .u8 (h : Int)) → Sem.run Tryz.prog (convert 46 9 (.slice (some ⟨g, 0, none⟩) 1 1)) W = .ok (.string ⟨#[UInt8.ofNat h]⟩) W := fun W g hc => by
    refine Lib.run_convert_whole (P := Tryz.prog) W 46 5 9 Tryz.underlying46 Tryz.underlying5 Tryz.underlying9 g 0 ⟨#[UInt8.ofNat h]⟩ (fun j hj => ?_) 1
    have : j = 0 := by have : j < 1 := hj; omega
    subst this
    rw [Nat.zero_add, hc]
    show some (Value.int .u8 (h : Int)) = some (.int .u8 ((UInt8.ofNat h).toNat : Int))
    rw [UInt8.toNat_ofNat']
    congr 2
    omega
  obtain ⟨R, hR⟩ : ∃ R, R = str (List.replicate 63 0) := ⟨_, rfl⟩
  have hrep : ∀ W : World, Calls Tryz.prog 52 #[.string ⟨#[0]⟩, .int .i64 63] W fun e w' => e = .returned (.string R) ∧ Below W.heap.size W w' := fun W => by rw [hR]; exact rep_any W 63 (by omega) 63 rfl
  have hsz : ¬ (9223372036854775807 < 1 + R.size) := by rw [hR, str_size, List.length_replicate]; omega
  have hfin : (⟨#[UInt8.ofNat h]⟩ : ByteArray) ++ R = mark0 h := by rw [hR]; exact mark_head h
  have HR := Lib.hid hrep
  have HF := Lib.hid hfin
  clear hrep hfin hR hh
  unfold hv
  go_enter Tryz.func47, Tryz.ntmps47
  go_wp2_with fail
  go_region_with (first | (go_at_call 52; ((with_reducible refine (HR.out _).mono ?_); rintro e w2 ⟨rfl, hb2⟩; obtain ⟨hc, hf⟩ := bcell hb2; have HB := Lib.hid (lots (w := w) (by first | exact blw ((boxed _ _).alloc (by simp) _) 1 | exact blw (boxed _ _) 1) hb2); clear hb2)))
  all_goals
    go_wp2
    go_ret
  all_goals
    rw [HF.out]
    exact ⟨rfl, by first | exact HB.out | exact HB.out.alloc HB.out.size _⟩
end Go.Proofs.YtjffcgimdffkoaaGreatDoor

namespace Go.Proofs.YtjffcgimdffkoaaGreatDoor
open Go.RowKit

theorem Strs.but {w w' : World} {p b g o : Nat} {xs : List ByteArray} (h : Strs w g o xs) (k : But p b w w') (hp : g ≠ p) (hb : g ≠ b) : Strs w' g o xs := fun j x e => by
  have hc := h j x e
  have hl := World.block_lt_of_cell? _ _ hc
  rw [World.cell?_of_block (k.block g hl hp hb)]
  exact hc
/-- a store at p and b, and a half in the box X -/
structure Hs (w0 w : World) (p b X h n : Nat) (s : SS) (m : Int) : Prop where
  at_ : At w p b s m
  box : Has w X 60 (hv p h n)
  but : But p b w0 w
theorem St.nbox {w : World} {p b X t : Nat} {s : SS} {cs : Array Value} (h : St w p b s) (q : Has w X t cs) (h1 : t ≠ 56) (h2 : t ≠ 84) : X ≠ p ∧ X ≠ b := by
  obtain ⟨cs, hc, _⟩ := h.row
  exact ⟨q.ne h.head h1, q.ne hc h2⟩
section
variable {w0 w w' : World} {p b X h n : Nat} {s : SS} {m : Int}
theorem Hs.up (H : Hs w0 w p b X h n s m) (k : Below w.heap.size w w') : Hs w0 w' p b X h n s m := ⟨H.at_.up k, H.box.up k, H.but.trans (But.of p b k)⟩
theorem Hs.drew (H : Hs w0 w p b X h n s m) : Hs w0 w.drew p b X h n s m := H.up ⟨rfl, rfl, rfl, Nat.le_refl _, fun _ _ => rfl⟩
theorem Hs.drewN (H : Hs w0 w p b X h n s m) (k : Nat) : Hs w0 (w.drewN k) p b X h n s m := H.up ⟨rfl, rfl, rfl, Nat.le_refl _, fun _ _ => rfl⟩
def Box3 (w : World) (X p h n : Nat) : Prop := w.cell? ⟨X, 0, none⟩ = some (.pointer (some ⟨p, 0, none⟩)) ∧ w.cell? ⟨X, 1, none⟩ = some (.int .i64 (h : Int)) ∧ w.cell? ⟨X, 2, none⟩ = some (.int .i64 (n : Int))
theorem Has.box3 {w : World} {X p h n : Nat} (H : Has w X 60 (hv p h n)) : Box3 w X p h n := ⟨H.cell 0, H.cell 1, H.cell 2⟩
theorem Hs.box3 (H : Hs w0 w p b X h n s m) : Box3 w X p h n := H.box.box3
theorem Hs.place (H : Hs w0 w p b X h n s m) (a : Nat) (hh : h ≤ 1) (hn : n ≤ 4096) (ha : a ≤ 100000) :
    Calls Tryz.prog 72 #[.agg #[.pointer (some ⟨p, 0, none⟩), .int .i64 (h : Int), .int .i64 (n : Int)], .int .i64 (a : Int)] w fun e w' => e = .returned (.int .i64 ((1 + h * n + a : Nat) : Int)) ∧ Hs w0 w' p b X h n s m ∧ Below w.heap.size w w' :=
  (place_any w p h n a hh hn ha).mono fun _ _ ⟨e, k⟩ => ⟨e, H.up k, k⟩
theorem Hs.write (H : Hs w0 w p b X h n s m) (hm : m ≤ 999990) (a : Int) (x : ByteArray) :
    Calls Tryz.prog 16 #[.pointer (some ⟨p, 0, none⟩), .int .i64 a, .string x] w fun e w' => e = .returned (.int .i64 (wrE s a x)) ∧ Hs w0 w' p b X h n (wrS s a x) (m + 1) ∧ But p b w w' :=
  (write_any w p b s a x m H.at_.st H.at_.fine (by omega)).mono fun _ _ ⟨e, st, k⟩ => ⟨e, ⟨⟨st, wr_fine H.at_.fine⟩, k.has H.box (H.at_.st.nbox H.box (by decide) (by decide)).1 (H.at_.st.nbox H.box (by decide) (by decide)).2, H.but.trans k⟩, k⟩
theorem Hs.read (H : Hs w0 w p b X h n s m) {a : Int} (h0 : 0 ≤ a) (h1 : a < s.n) :
    Calls Tryz.prog 43 #[.pointer (some ⟨p, 0, none⟩), .int .i64 a] w fun e w' => e = .returned (.tuple #[.string (s.B a.toNat), .int .i64 0]) ∧ w = w' := H.at_.read h0 h1
end

theorem runW_cons (s : SS) (a : Nat) (x : ByteArray) (r : List (Nat × ByteArray)) : runW s ((a, x) :: r) = if wrE s a x = 0 then runW (wrS s a x) r else (wrS s a x, wrE s a x) := rfl
theorem runW_append (ys : List (Nat × ByteArray)) : ∀ (xs : List (Nat × ByteArray)) (s : SS), runW s (xs ++ ys) = if (runW s xs).2 = 0 then runW (runW s xs).1 ys else runW s xs
  | [], s => by simp [runW]
  | (a, x) :: r, s => by
    rw [List.cons_append, runW_cons, runW_cons]
    by_cases h : wrE s a x = 0
    · rw [if_pos h, if_pos h]; exact runW_append ys r _
    · rw [if_neg h, if_neg h, if_neg h]
theorem runW_one (s : SS) (a : Nat) (x : ByteArray) : runW s [(a, x)] = (wrS s a x, wrE s a x) := by
  unfold runW
  split
  · next h => simp [runW, h]
  · rfl
theorem bodyW_take (a : Nat) (xs : List ByteArray) (i : Nat) (x : ByteArray) (hx : xs[i]? = some x) : (bodyW a xs).take (i + 1) = (bodyW a xs).take i ++ [(a + i, x)] := by
  have hi : i < xs.length := by
    by_cases q : i < xs.length
    · exact q
    · rw [List.getElem?_eq_none (by omega)] at hx; cases hx
  have hl : i < (bodyW a xs).length := by simp [bodyW, hi]
  rw [List.take_succ_eq_append_getElem hl]
  congr 2
  simp [bodyW, List.getD_eq_getElem?_getD, hx]
theorem runW_take (s : SS) (a : Nat) (xs : List ByteArray) (i : Nat) (x : ByteArray) (hx : xs[i]? = some x) (h : (runW s ((bodyW a xs).take i)).2 = 0) :
    runW s ((bodyW a xs).take (i + 1)) = (wrS (runW s ((bodyW a xs).take i)).1 ((a + i : Nat) : Int) x, wrE (runW s ((bodyW a xs).take i)).1 ((a + i : Nat) : Int) x) := by
  rw [bodyW_take a xs i x hx, runW_append, if_pos h, runW_one]
theorem runW_stuck (s : SS) (l : List (Nat × ByteArray)) (i : Nat) (h : (runW s (l.take i)).2 ≠ 0) : runW s l = runW s (l.take i) := by
  have := runW_append (l.drop i) (l.take i) s
  rw [List.take_append_drop, if_neg h] at this
  exact this
theorem bodyW_len (a : Nat) (xs : List ByteArray) : (bodyW a xs).length = xs.length := by simp [bodyW]

set_option maxRecDepth 100000 in
set_option maxHeartbeats 4000000 in
theorem hwrite_any (w : World) (p b h n a g o c : Nat) (xs : List ByteArray) (s : SS) (m : Int) (hA : At w p b s m) (hS : Strs w g o xs) (hp : g ≠ p) (hb : g ≠ b)
    (hh : h ≤ 1) (hn : n ≤ 4096) (ha : a ≤ 10000) (hx : xs.length ≤ 10000) (hm : m ≤ 900000) :
    Calls Tryz.prog 61 #[.agg (hv p h n), .int .i64 (a : Int), .slice (some ⟨g, o, none⟩) xs.length c] w fun e w' =>
      e = .returned (.int .i64 (runW s (bodyW (1 + h * n + a) xs)).2) ∧ At w' p b (runW s (bodyW (1 + h * n + a) xs)).1 (m + xs.length) ∧ But p b w w' := by
  obtain ⟨N, hN⟩ : ∃ N, N = xs.length := ⟨_, rfl⟩
  rw [← hN] at hx ⊢
  have HN := Lib.hid hN
  have H0 := Lib.hid (⟨hA.up (boxed _ _), Has.fresh w 60 (hv p h n), But.of p b (boxed _ _)⟩ : Hs w (w.alloc (.cells (hv p h n) 60)) p b w.heap.size h n s m)
  have S0 := Lib.hid (hS.up (boxed w (.cells (hv p h n) 60)))
  clear hA hS hN
  unfold hv at *
  obtain ⟨W0, hW⟩ : ∃ W0, W0 = w.alloc (.cells #[.pointer (some ⟨p, 0, none⟩), .int .i64 (h : Int), .int .i64 (n : Int)] 60) := ⟨_, rfl⟩
  rw [← hW] at H0 S0
  obtain ⟨X, hX⟩ : ∃ X, X = w.heap.size := ⟨_, rfl⟩
  rw [← hX] at H0
  have HW := Lib.hid hW
  have HX := Lib.hid hX
  have Hp := Lib.hid hp
  have Hb := Lib.hid hb
  clear hW hX hp hb
  go_enter Tryz.func61, Tryz.ntmps61
  go_wp2_with fail
  rw [← HW.out, ← HX.out]
  go_loopw [12] (fun vi wr => ∃ i : Nat, i ≤ N ∧ vi = .int .i64 (i : Int) ∧ Hid ((runW s ((bodyW (1 + h * n + a) xs).take i)).2 = 0 ∧ Hs w wr p b X h n (runW s ((bodyW (1 + h * n + a) xs).take i)).1 (m + i) ∧ Strs wr g o xs)) (fun vi _ => N - (intOf vi).toNat)
  case atStart => exact ⟨0, Nat.zero_le _, rfl, rfl, by simpa [runW] using H0.out, S0.out⟩
  case round =>
    obtain ⟨i, hi, rfl, HI⟩ := hrel
    by_cases hlt : i < N
    · have hix : i < xs.length := by rw [← HN.out]; exact hlt
      obtain ⟨x, hx⟩ : ∃ x, xs[i]? = some x := ⟨_, List.getElem?_eq_getElem hix⟩
      have hc0 : wr.cell? ⟨g, o + i, none⟩ = some (.string x) := HI.out.2.2 i x hx
      obtain ⟨si, hsi⟩ : ∃ si, si = (runW s ((bodyW (1 + h * n + a) xs).take i)).1 := ⟨_, rfl⟩
      have H1 : Hid (Hs w wr p b X h n si (m + i)) := by rw [hsi]; exact HI.out.2.1
      obtain ⟨q, hq⟩ : ∃ q, q = a + i := ⟨_, rfl⟩
      have hq2 : q ≤ 20000 := by omega
      have e1 : IntKind.i64.wrap ((a : Int) + (i : Int)) = (q : Int) := by rw [hq]; exact IntWalk.i64_in _ (by omega)
      obtain ⟨k, hk⟩ : ∃ k, k = 1 + h * n + q := ⟨_, rfl⟩
      have hki : k = 1 + h * n + a + i := by rw [hk, hq]; omega
      have HT := Lib.hid (runW_take s (1 + h * n + a) xs i x hx HI.out.1)
      rw [← hsi, ← hki] at HT
      have HS := Lib.hid HI.out.2.2
      have HK := Lib.hid hk
      obtain ⟨E, hE⟩ : ∃ E, E = wrE si (k : Int) x := ⟨_, rfl⟩
      have HE := Lib.hid hE
      have B3 := H1.out.box3
      unfold Box3 at B3
      obtain ⟨c0, c1, c2⟩ := B3
      have hsl : (i : Int) < (N : Int) := by omega
      by_cases q0 : E = 0
      · have hE0 : (E != 0) = false := by rw [q0]; rfl
        have HQ0 := Lib.hid q0
        clear HI hsi hq hki hk hE q0 hx
        go_wp2_with fail
        go_region_held3 (fun w' => w'.cell? ⟨X, 0, none⟩ = some (.pointer (some ⟨p, 0, none⟩)) ∧ w'.cell? ⟨X, 1, none⟩ = some (.int .i64 (h : Int)) ∧ w'.cell? ⟨X, 2, none⟩ = some (.int .i64 (n : Int)))
          ((change Box3 _ X p h n; with_reducible (first | exact H1.out.drew.box3 | exact k1.out.box3 | exact k2.out.box3)))
          (first | (go_at_call 72; ((with_reducible refine (H1.out.drew.place q (by omega) (by omega) (by omega)).mono ?_); rw [← HK.out]; rintro e w1 ⟨rfl, g1, g2⟩; have k1 := Lib.hid g1; have k0 := Lib.hid g2; clear g1 g2)) | (go_at_call 16; ((with_reducible refine (k1.out.write (by omega) (k : Int) x).mono ?_); rw [← HE.out]; rintro e w2 ⟨rfl, g2, g3⟩; have k2 := Lib.hid g2; have k3 := Lib.hid g3; clear g2 g3)))
        all_goals
          have HR : Hid ((runW s ((bodyW (1 + h * n + a) xs).take (i + 1))).2 = 0 ∧ Hs w w2 p b X h n (runW s ((bodyW (1 + h * n + a) xs).take (i + 1))).1 (m + ((i + 1 : Nat) : Int)) ∧ Strs w2 g o xs) := by
            rw [HT.out]
            refine ⟨HE.out.symm.trans HQ0.out, ?_, ?_⟩
            · have := k2.out
              rw [show m + ((i + 1 : Nat) : Int) = m + i + 1 by omega]
              exact this
            · exact ((HS.out.drew).up k0.out).but k3.out Hp.out Hb.out
          clear k1 k2 k3 HS HT HE HQ0 k0
          go_wp2
          go_roundw
          case rel => exact ⟨i + 1, by omega, by go_num, HR⟩
          case measure => simp [intOf]; omega
      · have hE0 : (E != 0) = true := by simpa using q0
        have HQ0 := Lib.hid q0
        clear HI hsi hq hki hk hE q0 hx
        go_wp2_with fail
        go_region_held3 (fun w' => w'.cell? ⟨X, 0, none⟩ = some (.pointer (some ⟨p, 0, none⟩)) ∧ w'.cell? ⟨X, 1, none⟩ = some (.int .i64 (h : Int)) ∧ w'.cell? ⟨X, 2, none⟩ = some (.int .i64 (n : Int)))
          ((change Box3 _ X p h n; with_reducible (first | exact H1.out.drew.box3 | exact k1.out.box3 | exact k2.out.box3)))
          (first | (go_at_call 72; ((with_reducible refine (H1.out.drew.place q (by omega) (by omega) (by omega)).mono ?_); rw [← HK.out]; rintro e w1 ⟨rfl, g1, g2⟩; have k1 := Lib.hid g1; have k0 := Lib.hid g2; clear g1 g2)) | (go_at_call 16; ((with_reducible refine (k1.out.write (by omega) (k : Int) x).mono ?_); rw [← HE.out]; rintro e w2 ⟨rfl, g2, g3⟩; have k2 := Lib.hid g2; have k3 := Lib.hid g3; clear g2 g3)))
        all_goals
          have HR : Hid (runW s (bodyW (1 + h * n + a) xs) = (wrS si k x, E)) := by
            rw [HE.out, ← HT.out]
            exact runW_stuck _ _ _ (by rw [HT.out]; exact fun z => HQ0.out (HE.out.trans z))
          clear HS HT HE HQ0 k0
          go_wp2
          go_ret
          rw [HR.out]
          exact ⟨rfl, ⟨k2.out.at_.st, k2.out.at_.fine.more (by omega)⟩, by have := k2.out.but; exact this⟩
    · have hin : i = N := by omega
      have HR : Hid ((runW s (bodyW (1 + h * n + a) xs)).2 = 0 ∧ Hs w wr p b X h n (runW s (bodyW (1 + h * n + a) xs)).1 (m + N)) := by
        have h1 := HI.out.1
        have h2 := HI.out.2.1
        rw [hin, List.take_of_length_le (by rw [bodyW_len, ← HN.out]; exact Nat.le_refl _)] at h1 h2
        exact ⟨h1, h2⟩
      clear HI hin
      go_wp2
      go_ret
      rw [HR.out.1]
      exact ⟨rfl, HR.out.2.at_, HR.out.2.but⟩
end Go.Proofs.YtjffcgimdffkoaaGreatDoor
