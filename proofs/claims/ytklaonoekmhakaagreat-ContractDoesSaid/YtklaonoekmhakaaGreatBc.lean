/- A contract in blocks of a set: what is to be proved of the program. -/
import Derived.Maps.AppendAt
import Derived.Test.YtklaonoekmhakaaGreatCfS
import Derived.Test.YtklaonoekmhakaaGreatCtMem
import Derived.Test.YtklaonoekmhakaaGreatD
namespace Go.Proofs.YtklaonoekmhakaaGreat
open Go.RowKit

/-- blocks of numbers, and the reference's, stay -/
def Sto (w w' : World) : Prop := ∀ (g T : Nat) (cs : Array Value), Has w g T cs → T = 3 ∨ T = 45 ∨ T = 62 ∨ T = 61 ∨ T = 57 ∨ T = 145 ∨ T = 139 → Has w' g T cs
/-- a change's answer: the contract goes on, nothing else has turned -/
def PcR (Pc : World → (Nat → Prop) → Nat → Ct → Prop) (w : World) (O : Nat → Prop) (c : Nat) (S : Ct) (X : Int) (e : Ending) (w' : World) : Prop := e = .returned (.int .i64 X) ∧ Pc w' (Nw O w w') c S ∧ Kp O w w' ∧ Sto w w'
structure PcK (Pc : World → (Nat → Prop) → Nat → Ct → Prop) : Prop where
  up : ∀ {w w' : World} {O : Nat → Prop} {c : Nat} {S : Ct}, Pc w O c S → Below w.heap.size w w' → Pc w' O c S
  keep : ∀ {w w' : World} {O O' : Nat → Prop} {c : Nat} {S : Ct}, Pc w O c S → Kp O' w w' → (∀ g cs, Has w g 3 cs → Has w' g 3 cs) → (∀ g, O g → ¬ O' g) → Pc w' O c S
  lt : ∀ {w : World} {O : Nat → Prop} {c : Nat} {S : Ct}, Pc w O c S → ∀ g, O g → g < w.heap.size
  fine : ∀ {w : World} {O : Nat → Prop} {c : Nat} {S : Ct}, Pc w O c S → FineC S
  tell : ∀ {w : World} {O : Nat → Prop} {c : Nat} {S : Ct} (du dy n : Int), Pc w O c S → Am n → Calls Tryz.prog 31 #[.pointer (some ⟨c, 0, none⟩), .int .i64 du, .int .i64 dy, .int .i64 n] w (PcR Pc w O c (S.telS du dy n) (S.telE du dy n))
  onward : ∀ {w : World} {O : Nat → Prop} {c : Nat} {S : Ct} (dy n : Int), Pc w O c S → Am n → Calls Tryz.prog 28 #[.pointer (some ⟨c, 0, none⟩), .int .i64 dy, .int .i64 n] w (PcR Pc w O c (S.onwS dy n) (S.onwE dy n))
  afresh : ∀ {w : World} {O : Nat → Prop} {c : Nat} {S : Ct} (dy n : Int), Pc w O c S → Am n → Calls Tryz.prog 30 #[.pointer (some ⟨c, 0, none⟩), .int .i64 dy, .int .i64 n] w (PcR Pc w O c (S.afrS dy n) (S.afrE dy n))
  price : ∀ {w : World} {O : Nat → Prop} {c : Nat} {S : Ct}, Pc w O c S → Calls Tryz.prog 16 #[.pointer (some ⟨c, 0, none⟩)] w fun e w' => e = .returned (.int .i64 S.N) ∧ Below w.heap.size w w'
  day : ∀ {w : World} {O : Nat → Prop} {c : Nat} {S : Ct}, Pc w O c S → Calls Tryz.prog 17 #[.pointer (some ⟨c, 0, none⟩)] w fun e w' => e = .returned (.int .i64 S.la) ∧ Below w.heap.size w w'
  many : ∀ {w : World} {O : Nat → Prop} {c : Nat} {S : Ct}, Pc w O c S → Calls Tryz.prog 18 #[.pointer (some ⟨c, 0, none⟩)] w fun e w' => e = .returned (.int .i64 (S.n : Int)) ∧ Below w.heap.size w w'
  allot : ∀ {w : World} {O : Nat → Prop} {c : Nat} {S : Ct} (k : Int), Pc w O c S → Calls Tryz.prog 21 #[.pointer (some ⟨c, 0, none⟩), .int .i64 k] w fun e w' => e = .returned (.int .i64 (S.altA k)) ∧ Below w.heap.size w w'
  earned : ∀ {w : World} {O : Nat → Prop} {c : Nat} {S : Ct} (k day : Int), Pc w O c S → Calls Tryz.prog 23 #[.pointer (some ⟨c, 0, none⟩), .int .i64 k, .int .i64 day] w fun e w' => e = .returned (.int .i64 (S.earA k day)) ∧ Below w.heap.size w w'
  all : ∀ {w : World} {O : Nat → Prop} {c : Nat} {S : Ct} (day : Int), Pc w O c S → Calls Tryz.prog 19 #[.pointer (some ⟨c, 0, none⟩), .int .i64 day] w fun e w' => e = .returned (.int .i64 (S.all day)) ∧ Below w.heap.size w w'
  duty : ∀ {w : World} {O : Nat → Prop} {c : Nat} {S : Ct} (k : Int), Pc w O c S → Calls Tryz.prog 25 #[.pointer (some ⟨c, 0, none⟩), .int .i64 k] w (DutR w S k)
/-- a contract of a call's own -/
def CfOf (Pc : World → (Nat → Prop) → Nat → Ct → Prop) (w0 w : World) (c : Nat) (S : Ct) : Prop := ∃ O : Nat → Prop, Pc w O c S ∧ (∀ g, O g → w0.heap.size ≤ g) ∧ Below w0.heap.size w0 w
section
variable {Pc : World → (Nat → Prop) → Nat → Ct → Prop} {w0 w w' : World} {O : Nat → Prop} {c : Nat} {S S' : Ct} {X : Int} {e : Ending}
theorem cf_step (hb : Below w0.heap.size w0 w) (hO : ∀ g, O g → w0.heap.size ≤ g) (z : PcR Pc w O c S' X e w') : e = .returned (.int .i64 X) ∧ CfOf Pc w0 w' c S' :=
  ⟨z.1, Nw O w w', z.2.1, fun g q => q.elim (hO g) fun q => Nat.le_trans hb.size q.1, hb.trans (z.2.2.1.below hb.size hO)⟩
theorem cfk_of (K : PcK Pc) : CfK (CfOf Pc) where
  up := fun ⟨O, h, hO, hb⟩ q => ⟨O, K.up h q, hO, up2 hb q⟩
  bel := fun ⟨_, _, _, hb⟩ => hb
  fine := fun ⟨_, h, _, _⟩ => K.fine h
  tell := fun du dy n ⟨_, h, hO, hb⟩ hn => (K.tell du dy n h hn).mono fun _ _ z => cf_step hb hO z
  onward := fun dy n ⟨_, h, hO, hb⟩ hn => (K.onward dy n h hn).mono fun _ _ z => cf_step hb hO z
  afresh := fun dy n ⟨_, h, hO, hb⟩ hn => (K.afresh dy n h hn).mono fun _ _ z => cf_step hb hO z
  price := fun ⟨_, h, _, _⟩ => K.price h
  day := fun ⟨_, h, _, _⟩ => K.day h
  many := fun ⟨_, h, _, _⟩ => K.many h
  allot := fun k ⟨_, h, _, _⟩ => K.allot k h
  earned := fun k d ⟨_, h, _, _⟩ => K.earned k d h
  all := fun d ⟨_, h, _, _⟩ => K.all d h
  duty := fun k ⟨_, h, _, _⟩ => K.duty k h
theorem Kp.wide {O O' : Nat → Prop} {w w' : World} (h : Kp O w w') (hs : ∀ g, O g → O' g) : Kp O' w w' := ⟨h.os, h.tape, h.output, h.size, fun b hb hn => h.block b hb fun q => hn (hs b q)⟩
end
end Go.Proofs.YtklaonoekmhakaaGreat

namespace Go.Proofs.YtklaonoekmhakaaGreat
open Go.RowKit

section
variable {w : World} {d : Dt} {a : Option Addr} {c : Nat}
set_option maxRecDepth 100000 in
set_option maxHeartbeats 2000000 in
theorem tnew_yes (hd : dtB d = true) (h2 : d.ls.length ≤ 17592186044416) (hI : InA w a d.ls) (ha : a = none → c = 0) : Calls Tryz.prog 140 #[d.val a c] w fun e w' => ∃ p, e = .returned (.tuple #[.pointer (some ⟨p, 0, none⟩), .int .i64 0]) ∧ Tg w w' p d [] ∧ w.heap.size ≤ p := by
  have hm := fun (W : World) => mayBe_any14 d a c W
  have hcp := fun (W : World) (q : Below w.heap.size w W) => copied_any d a c W h2 (hI.up q) ha
  rw [hd] at hm
  have HF := Lib.hid (FineT.nil hd)
  unfold CopR14 at hcp
  obtain ⟨ls, al, un, me, fi, la⟩ := d
  unfold Dt.val at hm hcp ⊢
  simp only at hm hcp h2 hI ⊢
  obtain ⟨n, hn⟩ : ∃ n, n = ls.length := ⟨_, rfl⟩
  have HN := Lib.hid hn
  rw [← hn] at hm hcp ⊢
  have HM := Lib.hid hm
  have HC := Lib.hid hcp
  clear hm hcp hI ha hd h2 hn
  go_enter Tryz.func140, Tryz.ntmps140
  go_wp2_with fail
  have hx := Has.fresh w 51 #[.slice a n c, .int .i64 al, .int .i64 un, .int .i64 me, .int .i64 fi, .int .i64 la]
  have HX := Lib.hid hx
  clear hx
  refine (HM.out _).mono ?_
  rintro e w1 ⟨rfl, hb⟩
  have HB := Lib.hid (up2 (boxed _ _) hb)
  have hx := HX.out.up hb
  have x0 := hx.cell 0
  have x1 := hx.cell 1
  have x2 := hx.cell 2
  have x3 := hx.cell 3
  have x4 := hx.cell 4
  have x5 := hx.cell 5
  simp at x0 x1 x2 x3 x4 x5
  clear hb hx
  go_wp2_with fail
  refine (HC.out _ HB.out).mono ?_
  rintro e w2 ⟨a', c', rfl, hown, hb⟩
  have HO := Lib.hid hown
  have HB2 := Lib.hid (up2 HB.out hb)
  clear hown hb x0 x1 x2 x3 x4 x5
  go_wp2_with fail
  go_ret2
  refine ⟨w2.heap.size, rfl, ⟨⟨a', c', .slice none 0 0, ?_, ?_, World.ownsRow_nil _ _ _ _, HF.out, fun _ => rfl⟩, grown_of (up2 HB2.out (boxed _ _)) _⟩, HB2.out.size⟩
  · rw [← HN.out]; exact Has.fresh w2 _ _
  · have ho := HO.out
    rw [HN.out] at ho
    exact own_up ho (boxed _ _)
end
section
variable {w : World} {B p : Nat} {d : Dt} {E : List Tl} {la : Option Addr} {lc : Nat} {tv : Value}
theorem tellV_in {v : Int} (h : Am v) : tellV v = v := by unfold Am at h; unfold tellV; rw [if_pos (by omega)]
theorem tellE_in {v : Int} (h : Am v) : tellE v = 0 := by unfold Am at h; unfold tellE; rw [if_pos (by omega)]
set_option maxRecDepth 100000 in
set_option maxHeartbeats 4000000 in
theorem great_any (h : TgX w B p d E la lc tv) (day : Int) : Calls Tryz.prog 119 #[.pointer (some ⟨p, 0, none⟩), .int .i64 day] w fun e w' => e = .returned (.int .i64 (thrM day E)) ∧ Below w.heap.size w w' := by
  obtain ⟨ta, tc, rfl, hrow⟩ := h.row
  have c6 := h.has.cell 6
  simp at c6
  have hlen := h.fine.len
  have HR := Lib.hid hrow
  obtain ⟨n, hn⟩ : ∃ n, n = E.length := ⟨_, rfl⟩
  have HN := Lib.hid hn
  rw [← hn] at c6 hlen
  clear hrow h hn
  go_enter Tryz.func119, Tryz.ntmps119
  go_wp2_with fail
  clear c6
  go_loopw [5, 13] (fun m i wr => ∃ k : Nat, k ≤ n ∧ i = .int .i64 (k : Int) ∧ m = .int .i64 (thrM day (E.take k)) ∧ Below w.heap.size w wr) (fun _ i _ => n - (intOf i).toNat)
  case atStart => exact ⟨0, Nat.zero_le _, rfl, rfl, Below.refl _ _⟩
  case round =>
    obtain ⟨k, hk, rfl, rfl, hb⟩ := hrel
    have HB := Lib.hid hb
    clear hb
    by_cases hlt : k < n
    · obtain ⟨x, hx⟩ : ∃ x, E[k]? = some x := ⟨E[k]'(by rw [← HN.out]; exact hlt), List.getElem?_eq_getElem _⟩
      obtain ⟨b, o, rfl, c0, c1⟩ := tl_at (HR.out.up HB.out) hx
      have hstep : thrM day (E.take (k + 1)) = max (thrM day (E.take k)) (if x.1 ≤ day then x.2 else 0) := by
        have h0 := thrM_nn day (E.take k)
        rw [List.take_add_one, hx, thrM_app]
        simp only [Option.toList, thrM]
        omega
      have HS := Lib.hid hstep
      have e1 : IntKind.i64.wrap ((k : Int) + 1) = (k : Int) + 1 := IntWalk.i64_in _ (by omega)
      have h0 := thrM_nn day (E.take k)
      obtain ⟨M, hM⟩ : ∃ M, M = thrM day (E.take k) := ⟨_, rfl⟩
      rw [← hM] at h0 ⊢
      have HM := Lib.hid hM
      obtain ⟨X, Y⟩ := x
      simp only at c0 c1
      clear hx hstep hM
      by_cases q : X ≤ day
      · go_wp2_with fail
        exact ⟨⟨k + 1, by omega, by go_num, by rw [HS.out, if_pos q, ← HM.out], up2 HB.out (boxed _ _)⟩, by simp [intOf]; omega⟩
      · go_wp2_with fail
        go_roundw
        case rel => exact ⟨k + 1, by omega, by go_num, by rw [HS.out, if_neg q, ← HM.out]; congr 1; omega, up2 HB.out (boxed _ _)⟩
        case measure => simp [intOf]; omega
    · obtain rfl : k = n := by omega
      go_wp2_with fail
      go_ret
      exact ⟨by rw [HN.out, List.take_length]; rfl, HB.out⟩
set_option maxRecDepth 100000 in
set_option maxHeartbeats 4000000 in
theorem tog_any (h : TgX w B p d E la lc tv) (day : Int) : Calls Tryz.prog 120 #[.pointer (some ⟨p, 0, none⟩), .int .i64 day] w fun e w' => e = .returned (.int .i64 (thrS day E)) ∧ Below w.heap.size w w' := by
  obtain ⟨ta, tc, rfl, hrow⟩ := h.row
  have c6 := h.has.cell 6
  simp at c6
  have hlen := h.fine.len
  have HR := Lib.hid hrow
  have HFine := Lib.hid h.fine
  obtain ⟨n, hn⟩ : ∃ n, n = E.length := ⟨_, rfl⟩
  have HN := Lib.hid hn
  rw [← hn] at c6 hlen
  clear hrow h hn
  go_enter Tryz.func120, Tryz.ntmps120
  go_wp2_with fail
  clear c6
  go_loopw [5, 13] (fun m i wr => ∃ k : Nat, k ≤ n ∧ i = .int .i64 (k : Int) ∧ m = .int .i64 (thrS day (E.take k)) ∧ Below w.heap.size w wr) (fun _ i _ => n - (intOf i).toNat)
  case atStart => exact ⟨0, Nat.zero_le _, rfl, rfl, Below.refl _ _⟩
  case round =>
    obtain ⟨k, hk, rfl, rfl, hb⟩ := hrel
    have HB := Lib.hid hb
    clear hb
    by_cases hlt : k < n
    · obtain ⟨x, hx⟩ : ∃ x, E[k]? = some x := ⟨E[k]'(by rw [← HN.out]; exact hlt), List.getElem?_eq_getElem _⟩
      obtain ⟨b, o, rfl, c0, c1⟩ := tl_at (HR.out.up HB.out) hx
      have hstep : thrS day (E.take (k + 1)) = thrS day (E.take k) + (if x.1 ≤ day then x.2 else 0) := by
        rw [List.take_add_one, hx, thrS_app]
        simp only [Option.toList, thrS]
        omega
      have HS := Lib.hid hstep
      have e1 : IntKind.i64.wrap ((k : Int) + 1) = (k : Int) + 1 := IntWalk.i64_in _ (by omega)
      have hE : ∀ j, FineT d (E.take j) := fun j => by
        have h1 := HFine.out
        rw [← List.take_append_drop j E] at h1
        exact h1.front
      have b0 := thrS_bd day (hE k).ok
      have b1 := thrS_bd day (hE (k + 1)).ok
      have s0 := (hE k).sum
      have s1 := (hE (k + 1)).sum
      have hx0 := HFine.out.ok x (List.mem_of_getElem? hx)
      have a0 : Am (thrS day (E.take k)) := by unfold Am; omega
      have hsx := HFine.out.sum
      have hx2 : Am x.2 := by
        have := (hE (k + 1)).ok
        rw [List.take_add_one, hx, sumT_app] at s1
        have := sumT_nn (hE k).ok
        simp [sumT] at s1
        unfold Am; omega
      obtain ⟨M, hM⟩ : ∃ M, M = thrS day (E.take k) := ⟨_, rfl⟩
      rw [← hM] at a0 ⊢
      have HM := Lib.hid hM
      obtain ⟨X, Y⟩ := x
      simp only at c0 c1 hx2
      have h2 : X ≤ day → Am (M + Y) := fun q => by
        rw [hstep, if_pos q, ← hM] at b1
        simp only at b1
        unfold Am; omega
      have HAdd := Lib.hid (fun (W : World) => add_any M Y W a0.1 a0.2 hx2.1 hx2.2)
      have H2 := Lib.hid h2
      clear hx hstep hM hE b0 b1 s0 s1 hx0 hsx h2 a0 hx2
      by_cases q : X ≤ day
      · rw [tellV_in (H2.out q), tellE_in (H2.out q)] at HAdd
        go_wp2_with fail
        refine (HAdd.out _).mono ?_
        rintro e w2 ⟨rfl, hb2⟩
        have HB2 := Lib.hid (up2 (boxed _ _) hb2)
        clear hb2 c0 c1
        go_wp2_with fail
        exact ⟨⟨k + 1, by omega, by go_num, by rw [HS.out, if_pos q, ← HM.out], up2 HB.out HB2.out⟩, by simp [intOf]; omega⟩
      · go_wp2_with fail
        go_roundw
        case rel => exact ⟨k + 1, by omega, by go_num, by rw [HS.out, if_neg q, ← HM.out]; congr 1; omega, up2 HB.out (boxed _ _)⟩
        case measure => simp [intOf]; omega
    · obtain rfl : k = n := by omega
      go_wp2_with fail
      go_ret
      exact ⟨by rw [HN.out, List.take_length]; rfl, HB.out⟩
set_option maxRecDepth 100000 in
set_option maxHeartbeats 8000000 in
theorem tnrises_any (h : TgX w B p d E la lc tv) (day m : Int) : Calls Tryz.prog 131 #[.pointer (some ⟨p, 0, none⟩), .int .i64 day, .int .i64 m] w fun e w' => e = .returned (.int .i64 (risT day m E)) ∧ Below w.heap.size w w' := by
  obtain ⟨ta, tc, rfl, hrow⟩ := h.row
  have c6 := h.has.cell 6
  simp at c6
  have hlen := h.fine.len
  have HR := Lib.hid hrow
  obtain ⟨n, hn⟩ : ∃ n, n = E.length := ⟨_, rfl⟩
  have HN := Lib.hid hn
  rw [← hn] at c6 hlen
  clear hrow h hn
  go_enter Tryz.func131, Tryz.ntmps131
  go_wp2_with fail
  clear c6
  go_loopw [7, 15] (fun v i wr => ∃ k : Nat, k ≤ n ∧ i = .int .i64 (k : Int) ∧ v = .int .i64 (if badT day m (E.take k) = true then 11 else 0) ∧ twiT day (E.take k) = false ∧ Below w.heap.size w wr) (fun _ i _ => n - (intOf i).toNat)
  case atStart => exact ⟨0, Nat.zero_le _, rfl, rfl, rfl, Below.refl _ _⟩
  case round =>
    obtain ⟨k, hk, rfl, rfl, ht, hb⟩ := hrel
    have HB := Lib.hid hb
    have HT := Lib.hid ht
    clear hb ht
    obtain ⟨V, hV⟩ : ∃ V, V = (if badT day m (E.take k) = true then (11 : Int) else 0) := ⟨_, rfl⟩
    rw [← hV]
    have HV := Lib.hid hV
    clear hV
    by_cases hlt : k < n
    · obtain ⟨x, hx⟩ : ∃ x, E[k]? = some x := ⟨E[k]'(by rw [← HN.out]; exact hlt), List.getElem?_eq_getElem _⟩
      obtain ⟨b, o, rfl, c0, c1⟩ := tl_at (HR.out.up HB.out) hx
      have hb1 : badT day m (E.take (k + 1)) = (badT day m (E.take k) || badB day m x) := by
        rw [List.take_add_one, hx]; unfold badT; simp
      have ht1 : twiT day (E.take (k + 1)) = (twiT day (E.take k) || decide (x.1 = day)) := by
        rw [List.take_add_one, hx]; unfold twiT; simp
      have hall : x.1 = day → risT day m E = 6 := fun q => by
        have : twiT day E = true := List.any_eq_true.2 ⟨x, List.mem_of_getElem? hx, by simpa using q⟩
        unfold risT; rw [if_pos this]
      rw [HT.out, Bool.false_or] at ht1
      have e1 : IntKind.i64.wrap ((k : Int) + 1) = (k : Int) + 1 := IntWalk.i64_in _ (by omega)
      have HB1 := Lib.hid hb1
      have HT1 := Lib.hid ht1
      have HAll := Lib.hid hall
      obtain ⟨X, Y⟩ := x
      simp only [badB] at c0 c1 HB1 HT1 HAll
      clear hx hb1 ht1 hall
      by_cases q : X = day
      · have q' : (X == day) = true := by simpa using q
        go_wp2_with fail
        go_ret
        exact ⟨by rw [HAll.out q]; rfl, up2 HB.out (boxed _ _)⟩
      · have q' : (X == day) = false := by simpa using q
        have HQ := Lib.hid q
        have hno : twiT day (E.take (k + 1)) = false := by rw [HT1.out]; simpa using q
        have HNo := Lib.hid hno
        clear q hno
        by_cases q1 : X < day
        · have q2 : ¬ day < X := by omega
          by_cases q3 : m < Y
          · have hv : badT day m (E.take (k + 1)) = true := by rw [HB1.out]; simp [q1, q3]
            have HVV := Lib.hid hv
            clear hv
            go_wp2_with fail
            exact ⟨⟨k + 1, by omega, by go_num, by rw [HVV.out]; rfl, HNo.out, up2 HB.out (boxed _ _)⟩, by simp [intOf]; omega⟩
          · have hv : badT day m (E.take (k + 1)) = badT day m (E.take k) := by rw [HB1.out]; simp [q1, q2, q3]
            have HVV := Lib.hid hv
            clear hv
            go_wp2_with fail
            exact ⟨⟨k + 1, by omega, by go_num, by rw [HVV.out, HV.out], HNo.out, up2 HB.out (boxed _ _)⟩, by simp [intOf]; omega⟩
        · have q2 : day < X := by have := HQ.out; omega
          by_cases q3 : Y < m
          · have hv : badT day m (E.take (k + 1)) = true := by rw [HB1.out]; simp [q2, q3]
            have HVV := Lib.hid hv
            clear hv
            go_wp2_with fail
            exact ⟨⟨k + 1, by omega, by go_num, by rw [HVV.out]; rfl, HNo.out, up2 HB.out (boxed _ _)⟩, by simp [intOf]; omega⟩
          · have hv : badT day m (E.take (k + 1)) = badT day m (E.take k) := by rw [HB1.out]; simp [q1, q2, q3]
            have HVV := Lib.hid hv
            clear hv
            go_wp2_with fail
            exact ⟨⟨k + 1, by omega, by go_num, by rw [HVV.out, HV.out], HNo.out, up2 HB.out (boxed _ _)⟩, by simp [intOf]; omega⟩
    · obtain rfl : k = n := by omega
      go_wp2_with fail
      go_ret
      have ht := HT.out
      have hv := HV.out
      rw [HN.out, List.take_length] at ht hv
      exact ⟨by unfold risT; rw [ht, if_neg (by simp), ← hv]; rfl, HB.out⟩
end
end Go.Proofs.YtklaonoekmhakaaGreat

namespace Go.Proofs.YtklaonoekmhakaaGreat
open Go.RowKit

section
variable {w : World} {B p : Nat} {d : Dt} {E : List Tl} {la : Option Addr} {lc : Nat} {tv : Value}
/-- what check answers -/
def ChkR (w : World) (X : Int) (e : Ending) (w' : World) : Prop := e = .returned (.int .i64 X) ∧ Below w.heap.size w w'
set_option maxRecDepth 100000 in
set_option maxHeartbeats 1000000 in
theorem check_arg (day n : Int) (h : day < 1 ∨ 1000000 < day ∨ n < 1) (q : Value) : Calls Tryz.prog 97 #[q, .int .i64 day, .int .i64 n] w (ChkR w 1) := by
  unfold ChkR
  have HD := Lib.hid (fun (W : World) => isDay_any day W)
  cases hb : dayB day with
  | false =>
    rw [hb] at HD
    clear h hb
    go_enter Tryz.func97, Tryz.ntmps97
    go_wp2_with fail
    refine (HD.out _).mono ?_
    rintro e w1 ⟨rfl, rfl⟩
    go_wp2_with fail
    go_ret
    exact ⟨rfl, Below.refl _ _⟩
  | true =>
    have hn : n < 1 := by unfold dayB at hb; simp only [Bool.and_eq_true, decide_eq_true_eq] at hb; omega
    rw [hb] at HD
    clear h hb
    go_enter Tryz.func97, Tryz.ntmps97
    go_wp2_with fail
    refine (HD.out _).mono ?_
    rintro e w1 ⟨rfl, rfl⟩
    go_wp2_with fail
    go_ret
    exact ⟨rfl, Below.refl _ _⟩
theorem day_in {day : Int} (h1 : 1 ≤ day) (h2 : day ≤ 1000000) : dayB day = true := by unfold dayB; simp [h1, h2]
set_option maxRecDepth 100000 in
set_option maxHeartbeats 1000000 in
theorem check_other (h : TgX w B p d E la lc tv) (day n : Int) (h1 : 1 ≤ day) (h2 : day ≤ 1000000) (h3 : 1 ≤ n) (m2 : d.me ≠ 2) (m3 : d.me ≠ 3) : Calls Tryz.prog 97 #[.pointer (some ⟨p, 0, none⟩), .int .i64 day, .int .i64 n] w (ChkR w 1) := by
  unfold ChkR
  have HD := Lib.hid (fun (W : World) => isDay_any day W)
  rw [day_in h1 h2] at HD
  have c3 := h.has.cell 3
  simp at c3
  generalize d.me = me at c3 m2 m3
  have m2' : (me == 2) = false := by simpa using m2
  have m3' : (me == 3) = false := by simpa using m3
  have hn : ¬ n < 1 := by omega
  clear h h1 h2 m2 m3 h3
  go_enter Tryz.func97, Tryz.ntmps97
  go_wp2_with fail
  refine (HD.out _).mono ?_
  rintro e w1 ⟨rfl, rfl⟩
  go_wp2_with fail
  go_ret
  exact ⟨rfl, Below.refl _ _⟩
set_option maxRecDepth 100000 in
set_option maxHeartbeats 1000000 in
theorem check_great (h : TgX w B p d E la lc tv) (day n : Int) (h1 : 1 ≤ day) (h2 : day ≤ 1000000) (m2 : d.me = 2) (h3 : 10000 < n) : Calls Tryz.prog 97 #[.pointer (some ⟨p, 0, none⟩), .int .i64 day, .int .i64 n] w (ChkR w 1) := by
  unfold ChkR
  have HD := Lib.hid (fun (W : World) => isDay_any day W)
  rw [day_in h1 h2] at HD
  have c3 := h.has.cell 3
  simp at c3
  rw [m2] at c3
  have hn : ¬ n < 1 := by omega
  clear h h1 h2 m2
  go_enter Tryz.func97, Tryz.ntmps97
  go_wp2_with fail
  refine (HD.out _).mono ?_
  rintro e w1 ⟨rfl, rfl⟩
  go_wp2_with fail
  go_ret
  exact ⟨rfl, Below.refl _ _⟩
set_option maxRecDepth 100000 in
set_option maxHeartbeats 1000000 in
theorem check_ris (h : TgX w B p d E la lc tv) (day n : Int) (h1 : 1 ≤ day) (h2 : day ≤ 1000000) (h3 : 1 ≤ n) (m2 : d.me = 2) (h4 : n ≤ 10000) (h5 : risT day n E ≠ 0) : Calls Tryz.prog 97 #[.pointer (some ⟨p, 0, none⟩), .int .i64 day, .int .i64 n] w (ChkR w (risT day n E)) := by
  unfold ChkR
  have HD := Lib.hid (fun (W : World) => isDay_any day W)
  rw [day_in h1 h2] at HD
  have HR := Lib.hid (tnrises_any h day n)
  have c3 := h.has.cell 3
  simp at c3
  rw [m2] at c3
  have hn : ¬ n < 1 := by omega
  have hn2 : ¬ 10000 < n := by omega
  generalize risT day n E = r at h5 HR
  have h5' : (r != 0) = true := by simpa using h5
  clear h h1 h2 m2 h3 h4 h5
  go_enter Tryz.func97, Tryz.ntmps97
  go_wp2_with fail
  refine (HD.out _).mono ?_
  rintro e w1 ⟨rfl, rfl⟩
  go_wp2_with fail
  refine HR.out.mono ?_
  rintro e w1 ⟨rfl, hb⟩
  have HB := Lib.hid hb
  clear hb
  go_wp2_with fail
  go_ret
  exact ⟨rfl, HB.out⟩
set_option maxRecDepth 100000 in
set_option maxHeartbeats 4000000 in
theorem check_fin (h : TgX w B p d E la lc tv) (day n : Int) (h1 : 1 ≤ day) (h2 : day ≤ 1000000) (h3 : 1 ≤ n) (hn9 : Am n) (hm : d.me = 3 ∨ (d.me = 2 ∧ n ≤ 10000 ∧ risT day n E = 0)) : Calls Tryz.prog 97 #[.pointer (some ⟨p, 0, none⟩), .int .i64 day, .int .i64 n] w (ChkR w (finT E n)) := by
  unfold ChkR
  have HD := Lib.hid (fun (W : World) => isDay_any day W)
  rw [day_in h1 h2] at HD
  have HR := Lib.hid (tnrises_any h day n)
  have hF := h.fine
  have hS0 := sumT_nn hF.ok
  have hS1 := hF.sum
  have HT := Lib.hid (fun (W : World) (q : Below w.heap.size w W) => tog_any (h.up q) 1000000)
  rw [thrS_all hF.ok] at HT
  have HA := Lib.hid (fun (W : World) => add_any (sumT E) n W (by omega) (by omega) hn9.1 hn9.2)
  have htE : tellE (sumT E + n) = if 9223372036854775807 < sumT E + n then 3 else 0 := by
    unfold tellE
    split <;> split <;> omega
  rw [htE] at HA
  obtain ⟨ta, tc, rfl, _⟩ := h.row
  have c3 := h.has.cell 3
  have c6 := h.has.cell 6
  simp at c3 c6
  have hlen := hF.len
  have hn : ¬ n < 1 := by omega
  have hfin : finT E n = if E.length = 200 then 4 else if 9223372036854775807 < sumT E + n then 3 else 0 := by
    unfold finT
    by_cases q : E.length = 200
    · rw [if_pos q, if_pos (by omega)]
    · rw [if_neg q, if_neg (by omega)]
  have HFin := Lib.hid hfin
  generalize sumT E = s at HT HA HFin
  have HC := Lib.hid c6
  generalize hl : E.length = L at HC HFin hlen
  clear htE hF hS0 hS1 h1 h2 h3 hfin hn9 hl c6
  generalize hov : (if 9223372036854775807 < s + n then (3 : Int) else 0) = ov at HA HFin
  clear hov
  by_cases qL : L = 200
  · have hq : ((L : Int) == 200) = true := by rw [qL]; rfl
    have hf := HFin.out
    rw [if_pos qL] at hf
    rw [hf]
    clear hf HA HT
    rcases hm with hm | ⟨hm, hn2, hr⟩
    · rw [hm] at c3
      clear hm h
      have c6 := HC.out
      go_enter Tryz.func97, Tryz.ntmps97
      go_wp2_with fail
      refine (HD.out _).mono ?_
      rintro e w1 ⟨rfl, rfl⟩
      go_wp2_with fail
      go_ret
      exact ⟨rfl, Below.refl _ _⟩
    · rw [hm] at c3
      rw [hr] at HR
      have hn3 : ¬ 10000 < n := by omega
      clear hm h hr hn2
      go_enter Tryz.func97, Tryz.ntmps97
      go_wp2_with fail
      refine (HD.out _).mono ?_
      rintro e w1 ⟨rfl, rfl⟩
      go_wp2_with fail
      refine HR.out.mono ?_
      rintro e w1 ⟨rfl, hb⟩
      have HB := Lib.hid hb
      have c6 := kcell hb HC.out
      clear hb c3
      go_wp2_with fail
      go_ret
      exact ⟨rfl, HB.out⟩
  · have hq : ((L : Int) == 200) = false := by simp; omega
    have hf := HFin.out
    rw [if_neg qL] at hf
    rw [hf]
    clear hf
    rcases hm with hm | ⟨hm, hn2, hr⟩
    · rw [hm] at c3
      clear hm h
      have c6 := HC.out
      go_enter Tryz.func97, Tryz.ntmps97
      go_wp2_with fail
      refine (HD.out _).mono ?_
      rintro e w1 ⟨rfl, rfl⟩
      go_wp2_with fail
      refine (HT.out _ (Below.refl _ _)).mono ?_
      rintro e w1 ⟨rfl, hb⟩
      have HB := Lib.hid hb
      clear hb c3 c6
      go_wp2_with fail
      refine (HA.out _).mono ?_
      rintro e w2 ⟨rfl, hb⟩
      have HB2 := Lib.hid (up2 HB.out hb)
      clear hb
      go_wp2_with fail
      go_ret
      exact ⟨rfl, HB2.out⟩
    · rw [hm] at c3
      rw [hr] at HR
      have hn3 : ¬ 10000 < n := by omega
      clear hm h hr hn2
      go_enter Tryz.func97, Tryz.ntmps97
      go_wp2_with fail
      refine (HD.out _).mono ?_
      rintro e w1 ⟨rfl, rfl⟩
      go_wp2_with fail
      refine HR.out.mono ?_
      rintro e w1 ⟨rfl, hb⟩
      have HB := Lib.hid hb
      have c6 := kcell hb HC.out
      clear hb c3
      go_wp2_with fail
      refine (HT.out _ HB.out).mono ?_
      rintro e w2 ⟨rfl, hb⟩
      have HB2 := Lib.hid (up2 HB.out hb)
      clear hb c6
      go_wp2_with fail
      refine (HA.out _).mono ?_
      rintro e w3 ⟨rfl, hb⟩
      have HB3 := Lib.hid (up2 HB2.out hb)
      clear hb
      go_wp2_with fail
      go_ret
      exact ⟨rfl, HB3.out⟩
theorem check_any14 (h : TgX w B p d E la lc tv) (day n : Int) (hn : Am n) : Calls Tryz.prog 97 #[.pointer (some ⟨p, 0, none⟩), .int .i64 day, .int .i64 n] w (ChkR w (telE d.me E day n)) := by
  unfold telE
  by_cases q0 : day < 1 ∨ 1000000 < day ∨ n < 1
  · rw [if_pos q0]; exact check_arg day n q0 _
  · rw [if_neg q0]
    by_cases q1 : d.me = 2
    · rw [if_pos q1]
      by_cases q2 : 10000 < n
      · rw [if_pos q2]; exact check_great h day n (by omega) (by omega) q1 q2
      · rw [if_neg q2]
        by_cases q3 : risT day n E = 0
        · rw [if_pos q3]; exact check_fin h day n (by omega) (by omega) (by omega) hn (.inr ⟨q1, by omega, q3⟩)
        · rw [if_neg q3]; exact check_ris h day n (by omega) (by omega) (by omega) q1 (by omega) q3
    · rw [if_neg q1]
      by_cases q2 : d.me = 3
      · rw [if_pos q2]; exact check_fin h day n (by omega) (by omega) (by omega) hn (.inl q2)
      · rw [if_neg q2]; exact check_other h day n (by omega) (by omega) (by omega) q1 q2
end
end Go.Proofs.YtklaonoekmhakaaGreat

namespace Go.Proofs.YtklaonoekmhakaaGreat
open Go.RowKit

theorem infoEvent : (Tryz.prog.info? 165).map (fun i => (i.zero, i.size, i.bytes)) = some (some (.agg #[.int .i64 0, .int .i64 0]), 2, 16) := by kernel_rfl
/-- blocks of other types stay -/
def Oth (w w' : World) : Prop := ∀ (g T : Nat) (cs : Array Value), Has w g T cs → T ≠ 154 → T ≠ 165 → Has w' g T cs
theorem Oth.of {w w' : World} (h : Below w.heap.size w w') : Oth w w' := fun _ _ _ hh _ _ => hh.up h
theorem Oth.trans {w w1 w2 : World} (h : Oth w w1) (h2 : Oth w1 w2) : Oth w w2 := fun g T cs hh a b => h2 g T cs (h g T cs hh a b) a b
theorem Oth.own {w w' : World} (h : Oth w w') {B T z n : Nat} {v : Value} {xs : List Value} (ho : w.ownsRow B T z v n xs) (h1 : T ≠ 154) (h2 : T ≠ 165) : w'.ownsRow B T z v n xs := by
  refine ⟨ho.1, ?_⟩
  rcases ho.2 with q | ⟨g, cap, cur, e, h3, h4, h5⟩
  · exact .inl q
  · exact .inr ⟨g, cap, cur, e, h3, h g T cur h4 h1 h2, h5⟩
theorem Oth.grown {w w' : World} {v : Value} {B n z : Nat} {xs : List Value} (ho : w.ownsRow B 165 z v n xs) (q : w.grownBy w' v.ownBlock) : Oth w w' := fun g _ _ hh _ h2 =>
  (q.block g hh.lt (fun e => own_ne ho hh (Ne.symm h2) e.symm)).trans hh
theorem Oth.put {w : World} {p : Nat} {cs : Array Value} (hp : Has w p 154 cs) (i : Nat) (v : Value) : Oth w (w.setCell ⟨p, i, none⟩ v) := fun g T cs' hh h1 _ =>
  ((grown_set w p i v).block g hh.lt (fun e => hh.ne hp h1 (by injection e))).trans hh
/-- what Tell answers, and leaves -/
def TelR (w0 : World) (p : Nat) (d : Dt) (E : List Tl) (day n : Int) (e : Ending) (w' : World) : Prop := e = .returned (.int .i64 (telE d.me E day n)) ∧ Tg w0 w' p d (telS d.me E day n)
/-- .. and what stays -/
def TelO (w0 w : World) (p : Nat) (d : Dt) (E : List Tl) (day n : Int) (e : Ending) (w' : World) : Prop := TelR w0 p d E day n e w' ∧ Oth w w'
section
variable {w0 w : World} {p : Nat} {d : Dt} {E : List Tl}
/-- one more that is told -/
theorem Tg.more (h : Tg w0 w p d E) {day n : Int} (h0 : telE d.me E day n = 0) {y : Nat} (hy : Has w y 165 #[.int .i64 day, .int .i64 n]) :
    ∃ a c a' c' w', w.cell? ⟨p, 6, none⟩ = some (.slice a E.length c) ∧ w.frozen? ⟨p, 6, none⟩ = false ∧ (Builtin.append_ #[152, 152] 152 #[.slice a E.length c, .slice (some ⟨y, 0, none⟩) 1 1]).run Tryz.prog w = .ok (.slice a' (E.length + 1) c') w' ∧ w'.cell? ⟨p, 6, none⟩ = some (.slice a E.length c) ∧ w'.frozen? ⟨p, 6, none⟩ = false ∧ Tg w0 (w'.setCell ⟨p, 6, none⟩ (.slice a' (E.length + 1) c')) p d (E ++ [(day, n)]) ∧ Oth w (w'.setCell ⟨p, 6, none⟩ (.slice a' (E.length + 1) c')) := by
  obtain ⟨⟨la, lc, tv, hx⟩, hk⟩ := h
  obtain ⟨a, c, rfl, _, _⟩ := own_form3 hx.own
  obtain ⟨i, hi, hz0, hz1, hz2⟩ := info_parts infoEvent
  have hlen := hx.fine.len
  obtain ⟨v', w', hr, ho, hg, _, hat⟩ := run_append_own_at (P := Tryz.prog) w w0.heap.size 152 152 165 i _ 2 16 Tryz.underlying152 hi hz0 hz1 hz2 rfl (by decide) _ E.length _ hx.own ⟨y, 0, none⟩ 1 1 (tlC (day, n)) rfl
    (fun j u hu => by
      rw [addr_off, Nat.zero_add, hy.cell]
      exact (List.getElem?_toArray (xs := tlC (day, n)) (i := j)).trans hu)
    (fun u hu => by simp [tlC] at hu; rcases hu with rfl | rfl <;> rfl) (by unfold maxLen; omega) (by omega) hk.size
  obtain ⟨a', c', rfl⟩ := own_formb ho
  have hpne : some p ≠ (Value.slice a E.length c).ownBlock := fun e => own_ne hx.own hx.has (by decide) e.symm
  have hp' : Has w' p 154 _ := (hg.block p hx.has.lt hpne).trans hx.has
  have hl' := hx.lns.kept hg (own_two hx.lns hx.own (by decide))
  have hs := hp'.put 6 (.slice a' (E.length + 1) c')
  have hset := grown_set w' p 6 (.slice a' (E.length + 1) c')
  refine ⟨a, c, a', c', w', ?_, hx.has.free 6, hr, ?_, hp'.free 6, ⟨⟨la, lc, _, hs, own_beside hl' hp' (by decide) hset, ?_, hx.fine.more h0, fun e => by simp at e⟩, ?_⟩, (Oth.grown hx.own hg).trans (Oth.put hp' 6 _)⟩
  · have := hx.has.cell 6; simpa using this
  · have := hp'.cell 6; simpa using this
  · have := own_beside ho hp' (by decide) hset
    rw [List.length_append, List.flatMap_append]
    simpa using this
  · have h1 : w0.grownBy w' (some p) := ⟨hg.os.trans hk.os, hg.tape.trans hk.tape, hg.output.trans hk.output, Nat.le_trans hk.size hg.size, fun k hk1 hne => by
      rw [← hk.block k hk1 hne]
      refine hg.block k (Nat.lt_of_lt_of_le hk1 hk.size) (fun e => ?_)
      have := (hx.own.lt k e.symm).1
      omega⟩
    exact grown_trans h1 hset
end
end Go.Proofs.YtklaonoekmhakaaGreat

namespace Go.Proofs.YtklaonoekmhakaaGreat
open Go.RowKit
def clampV (n a b : Int) : Int := if n < a then a else if b < n then b else n

set_option maxHeartbeats 400000 in
theorem clamp_any (n a b : Int) (w : World) :
    Calls Tryz.prog 121 #[.int .i64 n, .int .i64 a, .int .i64 b] w fun e w' =>
      e = .returned (.int .i64 (clampV n a b)) ∧ w = w' := by
  by_cases h : n < a
  · have e : clampV n a b = a := by simp [clampV, h]
    rw [e]; clear e
    go_enter Tryz.func121, Tryz.ntmps121
    go_wp2
    go_ret
    exact ⟨rfl, rfl⟩
  · by_cases g : b < n
    · have e : clampV n a b = b := by simp [clampV, h, g]
      rw [e]; clear e
      go_enter Tryz.func121, Tryz.ntmps121
      go_wp2
      go_ret
      exact ⟨rfl, rfl⟩
    · have e : clampV n a b = n := by simp [clampV, h, g]
      rw [e]; clear e
      go_enter Tryz.func121, Tryz.ntmps121
      go_wp2
      go_ret
      exact ⟨rfl, rfl⟩
end Go.Proofs.YtklaonoekmhakaaGreat
