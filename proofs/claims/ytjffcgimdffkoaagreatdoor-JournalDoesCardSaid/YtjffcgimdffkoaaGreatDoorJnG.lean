/- Steps, one behind the other. -/
import Derived.Test.YtjffcgimdffkoaaGreatDoorJnE
namespace Go.Proofs.YtjffcgimdffkoaaGreatDoor
open Go.RowKit

/-- a function of no parameters, with what it has caught -/
def fnV (f : FuncId × Array Value) : Value := .func (.func f.1) #[] f.2
/-- step i of steps: in whichever world what it needs (K) stands, it does its writes -/
def StepsOk (p b : Nat) (s : SS) (K : World → Prop) (fs : List (FuncId × Array Value)) (ls : List (List (Nat × ByteArray))) : Prop :=
  ∀ i f l, fs[i]? = some f → ls[i]? = some l → ∀ (W : World) (s' : SS) (m : Int), At W p b s' m → K W → (i = 0 → s' = s) → s'.n = s.n → m ≤ 900000 →
    (callFunc f.1 f.2).run Tryz.prog W = .ok (.enter f.1 f.2) W ∧ Calls Tryz.prog f.1 f.2 W fun e w' => e = .returned (.int .i64 (runW s' l).2) ∧ At w' p b (runW s' l).1 (m + 1000) ∧ But p b W w'
/-- functions at G -/
def Fns (w : World) (G : Nat) (fs : List (FuncId × Array Value)) : Prop := ∃ cs : Array Value, Has w G 101 cs ∧ ∀ (i : Nat) (f : FuncId × Array Value), fs[i]? = some f → cs[i]? = some (fnV f)
theorem Has.fns {w : World} {G : Nat} {fs : List (FuncId × Array Value)} (h : Has w G 101 (fs.map fnV).toArray) : Fns w G fs := ⟨(fs.map fnV).toArray, h, fun i f (e : fs[i]? = some f) => by simp [e]⟩
theorem Fns.but {w w' : World} {p b G : Nat} {fs : List (FuncId × Array Value)} {s : SS} {m : Int} (h : Fns w G fs) (hA : At w p b s m) (k : But p b w w') : Fns w' G fs := by
  obtain ⟨cs, hc, hf⟩ := h
  exact ⟨cs, k.hasT hA hc (by decide) (by decide), hf⟩
theorem runW_n (l : List (Nat × ByteArray)) : ∀ s : SS, (runW s l).1.n = s.n := by
  induction l with
  | nil => intro s; rfl
  | cons x l ih =>
    obtain ⟨a, y⟩ := x
    intro s
    rw [runW_cons]
    split
    · rw [ih, wr_n]
    · exact wr_n _ _ _
theorem flat_take {α : Type} (ls : List (List α)) (i : Nat) (l : List α) (h : ls[i]? = some l) : (ls.take (i + 1)).flatten = (ls.take i).flatten ++ l := by
  have hi : i < ls.length := by
    by_cases q : i < ls.length
    · exact q
    · rw [List.getElem?_eq_none (by omega)] at h; cases h
  rw [List.take_succ_eq_append_getElem hi, List.flatten_append]
  rw [List.getElem?_eq_getElem hi] at h
  rw [Option.some.inj h]
  simp
theorem flat_split {α : Type} (ls : List (List α)) (i : Nat) : ls.flatten = (ls.take i).flatten ++ (ls.drop i).flatten := by
  rw [← List.flatten_append, List.take_append_drop]

set_option maxRecDepth 100000 in
set_option maxHeartbeats 4000000 in
theorem inOrder_any (w : World) (p b G c : Nat) (s : SS) (m : Int) (K : World → Prop) (fs : List (FuncId × Array Value)) (ls : List (List (Nat × ByteArray))) (hl : ls.length = fs.length) (h10 : fs.length ≤ 10)
    (hA : At w p b s m) (hm : m ≤ 800000) (hG : Fns w G fs) (hK : K w) (kept : ∀ W W' s' m', At W p b s' m' → K W → But p b W W' → K W') (ok : StepsOk p b s K fs ls) :
    Calls Tryz.prog 51 #[.slice (some ⟨G, 0, none⟩) fs.length c] w fun e w' =>
      e = .returned (.int .i64 (runW s ls.flatten).2) ∧ At w' p b (runW s ls.flatten).1 (m + 10000) ∧ But p b w w' := by
  obtain ⟨N, hN⟩ : ∃ N, N = fs.length := ⟨_, rfl⟩
  rw [← hN] at hl h10 ⊢
  have HA := Lib.hid hA
  have HG := Lib.hid hG
  have HK := Lib.hid hK
  have HKept := Lib.hid kept
  have HO := Lib.hid ok
  have HN := Lib.hid (And.intro hN hl)
  clear hA hG hK kept ok hN hl
  go_enter Tryz.func51, Tryz.ntmps51
  go_wp2_with fail
  go_loopw [8] (fun vi wr => ∃ i : Nat, i ≤ N ∧ vi = .int .i64 (i : Int) ∧ Hid ((runW s (ls.take i).flatten).2 = 0 ∧ At wr p b (runW s (ls.take i).flatten).1 (m + 1000 * i) ∧ K wr ∧ Fns wr G fs ∧ But p b w wr)) (fun vi _ => N - (intOf vi).toNat)
  case atStart => exact ⟨0, Nat.zero_le _, rfl, rfl, by simpa [runW] using HA.out, HK.out, HG.out, But.refl _ _ _⟩
  case round =>
    obtain ⟨i, hi, rfl, HI⟩ := hrel
    by_cases hlt : i < N
    · have hif : i < fs.length := by rw [← HN.out.1]; exact hlt
      have hil : i < ls.length := by rw [HN.out.2]; exact hlt
      obtain ⟨f, hf⟩ : ∃ f, fs[i]? = some f := ⟨_, List.getElem?_eq_getElem hif⟩
      obtain ⟨l, hlk⟩ : ∃ l, ls[i]? = some l := ⟨_, List.getElem?_eq_getElem hil⟩
      have hc0 : wr.cell? ⟨G, i, none⟩ = some (.func (.func f.1) #[] f.2) := by
        obtain ⟨cs, hc, hq⟩ := HI.out.2.2.2.1
        rw [hc.cell i]
        exact hq i f hf
      obtain ⟨si, hsi⟩ : ∃ si, si = (runW s (ls.take i).flatten).1 := ⟨_, rfl⟩
      obtain ⟨hcf, hcc⟩ := HO.out i f l hf hlk wr si (m + 1000 * i) (by rw [hsi]; exact HI.out.2.1) HI.out.2.2.1 (by intro z; rw [hsi, z]; rfl) (by rw [hsi]; exact runW_n _ _) (by omega)
      have HC := Lib.hid hcc
      have HT : Hid (runW s (ls.take (i + 1)).flatten = runW si l) := by
        show runW s (ls.take (i + 1)).flatten = runW si l
        rw [flat_take ls i l hlk, runW_append, if_pos HI.out.1, hsi]
      obtain ⟨E, hE⟩ : ∃ E, E = (runW si l).2 := ⟨_, rfl⟩
      rw [← hE] at HC
      have HE := Lib.hid hE
      obtain ⟨F, hF⟩ : ∃ F, F = f.1 := ⟨_, rfl⟩
      obtain ⟨U, hU⟩ : ∃ U, U = f.2 := ⟨_, rfl⟩
      rw [← hF, ← hU] at HC hc0 hcf
      have HAi := Lib.hid HI.out.2.1
      have HKi := Lib.hid HI.out.2.2.1
      have HGi := Lib.hid HI.out.2.2.2.1
      have HBi := Lib.hid HI.out.2.2.2.2
      clear hsi hE hF hU hf hlk hif hil HI hcc
      by_cases q0 : E = 0
      · have hE0 : (E != 0) = false := by rw [q0]; rfl
        have HQ0 := Lib.hid q0
        clear q0
        go_wp2_with fail
        refine HC.out.mono ?_
        rintro e w1 ⟨rfl, g1, g2⟩
        have HR : Hid ((runW s (ls.take (i + 1)).flatten).2 = 0 ∧ At w1 p b (runW s (ls.take (i + 1)).flatten).1 (m + 1000 * ((i + 1 : Nat) : Int)) ∧ K w1 ∧ Fns w1 G fs ∧ But p b w w1) := by
          rw [HT.out]
          refine ⟨HE.out.symm.trans HQ0.out, ?_, HKept.out _ _ _ _ HAi.out HKi.out g2, HGi.out.but HAi.out g2, HBi.out.trans g2⟩
          rw [show m + 1000 * ((i + 1 : Nat) : Int) = m + 1000 * i + 1000 by omega]
          exact g1
        clear hcf hc0 g1 g2
        go_wp2
        go_roundw
        case rel => exact ⟨i + 1, by omega, by go_num, HR⟩
        case measure => simp [intOf]; omega
      · have hE0 : (E != 0) = true := by simpa using q0
        have HQ0 := Lib.hid q0
        clear q0
        go_wp2_with fail
        refine HC.out.mono ?_
        rintro e w1 ⟨rfl, g1, g2⟩
        have HR : Hid (runW s ls.flatten = runW si l) := by
          show runW s ls.flatten = runW si l
          rw [flat_split ls (i + 1), runW_append, if_neg (by rw [HT.out]; exact fun z => HQ0.out (HE.out.trans z)), HT.out]
        have K1 := Lib.hid g1
        have K2 := Lib.hid (HBi.out.trans g2)
        clear hcf hc0 g1 g2
        go_wp2
        go_ret
        rw [HR.out, ← HE.out]
        exact ⟨rfl, K1.out.fine_more (by omega), K2.out⟩
    · have hin : i = N := by omega
      have HR : Hid ((runW s ls.flatten).2 = 0 ∧ At wr p b (runW s ls.flatten).1 (m + 1000 * i) ∧ But p b w wr) := by
        have h1 := HI.out.1
        have h2 := HI.out.2.1
        rw [hin, List.take_of_length_le (by rw [HN.out.2]; exact Nat.le_refl _)] at h1 h2
        exact ⟨h1, by rw [hin]; exact h2, HI.out.2.2.2.2⟩
      clear HI hin
      go_wp2
      go_ret
      rw [HR.out.1]
      exact ⟨rfl, HR.out.2.1.fine_more (by omega), HR.out.2.2⟩
end Go.Proofs.YtjffcgimdffkoaaGreatDoor

namespace Go.Proofs.YtjffcgimdffkoaaGreatDoor
open Go.RowKit

theorem Tb.below {w w' : World} (h : Tb w) (hb : Below w.heap.size w w') : Tb w' := h.up hb
set_option maxRecDepth 100000 in
set_option maxHeartbeats 4000000 in
theorem laying_great (w : World) (p h n a : Nat) (x : ByteArray) (hx : x.size ≤ maxLen) (h4 : 40000 < x.size) :
    Calls Tryz.prog 50 #[.agg (hv p h n), .int .i64 (a : Int), .string x] w fun e w' => e = .returned (.tuple #[.slice none 0 0, .int .i64 4]) ∧ Below w.heap.size w w' := by
  have HL : Hid (∀ W : World, Calls Tryz.prog 57 #[.string x, .bool false] W fun e w' => e = .returned (.tuple #[.slice none 0 0, .int .i64 4]) ∧ W = w') := fun W => lay_full x false W h4 hx
  clear hx h4
  unfold hv
  go_enter Tryz.func50, Tryz.ntmps50
  go_wp2_with fail
  refine (HL.out _).mono ?_
  rintro e w' ⟨rfl, rfl⟩
  go_wp2
  go_ret2
  exact ⟨rfl, (((Below.refl _ _).alloc (Nat.le_refl _) _).alloc (by simp) _).alloc (by simp; omega) _⟩

set_option maxRecDepth 100000 in
set_option maxHeartbeats 4000000 in
theorem laying_room (w : World) (p h n a : Nat) (x : ByteArray) (hx : x.size ≤ 40000) (ha : a ≤ 5000) (hn : n ≤ 4096) (hr : n < a + nb x.size) (hT : Tb w) :
    Calls Tryz.prog 50 #[.agg (hv p h n), .int .i64 (a : Int), .string x] w fun e w' => e = .returned (.tuple #[.slice none 0 0, .int .i64 4]) ∧ Below w.heap.size w w' := by
  obtain ⟨k, hk⟩ : ∃ k, k = nb x.size := ⟨_, rfl⟩
  have hk0 : k ≤ 626 := by rw [hk]; unfold nb; omega
  have HL : Hid (∀ W : World, Below w.heap.size w W → Calls Tryz.prog 57 #[.string x, .bool false] W fun e w' => e = .returned (.tuple #[.slice (some ⟨W.heap.size, 0, none⟩) k k, .int .i64 0]) ∧ Below W.heap.size W w') := fun W hb => by
    rw [hk]
    exact (lay_any x false W hx (hT.up hb)).mono fun _ _ ⟨e, _, q⟩ => ⟨e, q⟩
  rw [← hk] at hr
  have hb0 := Lib.hid ((boxed w (.cells (hv p h n) 60)).alloc (by simp) (.cells #[.int .i64 (a : Int)] 3))
  have hX := Lib.hid ((Has.fresh w 60 (hv p h n)).more (.cells #[.int .i64 (a : Int)] 3))
  have hF := Has.fresh (w.alloc (.cells (hv p h n) 60)) 3 #[.int .i64 (a : Int)]
  rw [show (w.alloc (.cells (hv p h n) 60)).heap.size = w.heap.size + 1 by simp] at hF
  have HF := Lib.hid hF
  clear hx hT hk hF
  unfold hv at *
  obtain ⟨W0, hW⟩ : ∃ W0, W0 = (w.alloc (.cells #[.pointer (some ⟨p, 0, none⟩), .int .i64 (h : Int), .int .i64 (n : Int)] 60)).alloc (.cells #[.int .i64 (a : Int)] 3) := ⟨_, rfl⟩
  rw [← hW] at hb0 hX HF
  obtain ⟨X, hXe⟩ : ∃ X, X = w.heap.size := ⟨_, rfl⟩
  obtain ⟨F, hFe⟩ : ∃ F, F = w.heap.size + 1 := ⟨_, rfl⟩
  rw [← hFe] at HF
  rw [← hXe] at hX
  have HW := Lib.hid hW
  have HXe := Lib.hid hXe
  have HFe := Lib.hid hFe
  clear hW hXe hFe
  go_enter Tryz.func50, Tryz.ntmps50
  go_wp2_with fail
  rw [← HW.out, ← HFe.out, ← HXe.out]
  refine (HL.out _ hb0.out).mono ?_
  rintro e w1 ⟨rfl, hb1⟩
  have B3 := (hX.out.up hb1).box3
  unfold Box3 at B3
  obtain ⟨c0, c1, c2⟩ := B3
  have f0 : w1.cell? ⟨F, 0, none⟩ = some (.int .i64 (a : Int)) := (HF.out.up hb1).cell 0
  have hB := Lib.hid (lots hb0.out hb1)
  have hz : X < w1.heap.size ∧ F < w1.heap.size := ⟨(hX.out.up hb1).lt, (HF.out.up hb1).lt⟩
  obtain ⟨z0, z1⟩ := hz
  clear hb1 HL
  go_wp2
  go_ret2
  exact ⟨rfl, (hB.out.alloc hB.out.size _).alloc (by have := hB.out.size; simp; omega) _⟩

/-- the four steps -/
def four (X F E I C : Nat) : List (FuncId × Array Value) :=
  [(58, #[.pointer (some ⟨X, 0, none⟩), .pointer (some ⟨E, 0, none⟩)]), (60, #[.pointer (some ⟨X, 0, none⟩), .pointer (some ⟨F, 0, none⟩), .pointer (some ⟨I, 0, none⟩)]),
   (62, #[.pointer (some ⟨X, 0, none⟩), .pointer (some ⟨F, 0, none⟩), .pointer (some ⟨I, 0, none⟩)]), (63, #[.pointer (some ⟨X, 0, none⟩), .pointer (some ⟨F, 0, none⟩), .pointer (some ⟨C, 0, none⟩)])]
/-- laid out: the steps at G, and what they have caught -/
def Laid (w : World) (p h n a : Nat) (x : ByteArray) (e : Ending) (w' : World) : Prop :=
  ∃ X F E I g C c G, e = .returned (.tuple #[.slice (some ⟨G, 0, none⟩) 4 4, .int .i64 0]) ∧ w.heap.size ≤ G ∧ Has w' G 101 ((four X F E I C).map fnV).toArray ∧ Cau w' p h n a x.data.toList X F E I g C c ∧ Below w.heap.size w w'
set_option maxRecDepth 100000 in
set_option maxHeartbeats 4000000 in
theorem laying_fine (w : World) (p h n a : Nat) (x : ByteArray) (hx : x.size ≤ 40000) (hn : n ≤ 4096) (hr : a + nb x.size ≤ n) (hT : Tb w) :
    Calls Tryz.prog 50 #[.agg (hv p h n), .int .i64 (a : Int), .string x] w (Laid w p h n a x) := by
  obtain ⟨k, hk⟩ : ∃ k, k = nb x.size := ⟨_, rfl⟩
  have hk0 : k ≤ 626 := by rw [hk]; unfold nb; omega
  have HL : Hid (∀ (W : World) (mk : Bool), Below w.heap.size w W → Calls Tryz.prog 57 #[.string x, .bool mk] W fun e w' => e = .returned (.tuple #[.slice (some ⟨W.heap.size, 0, none⟩) k k, .int .i64 0]) ∧ Has w' W.heap.size 9 (rowA (layX x.data.toList mk)) ∧ Below W.heap.size W w') := fun W mk hb => by
    rw [hk]
    exact lay_any x mk W hx (hT.up hb)
  rw [← hk] at hr
  have hb0 := Lib.hid ((boxed w (.cells (hv p h n) 60)).alloc (by simp) (.cells #[.int .i64 (a : Int)] 3))
  have hX := Lib.hid ((Has.fresh w 60 (hv p h n)).more (.cells #[.int .i64 (a : Int)] 3))
  have hF := Has.fresh (w.alloc (.cells (hv p h n) 60)) 3 #[.int .i64 (a : Int)]
  rw [show (w.alloc (.cells (hv p h n) 60)).heap.size = w.heap.size + 1 by simp] at hF
  have HF := Lib.hid hF
  have HKk := Lib.hid hk
  clear hx hT hk hF
  unfold hv at *
  obtain ⟨W0, hW⟩ : ∃ W0, W0 = (w.alloc (.cells #[.pointer (some ⟨p, 0, none⟩), .int .i64 (h : Int), .int .i64 (n : Int)] 60)).alloc (.cells #[.int .i64 (a : Int)] 3) := ⟨_, rfl⟩
  rw [← hW] at hb0 hX HF
  obtain ⟨X, hXe⟩ : ∃ X, X = w.heap.size := ⟨_, rfl⟩
  obtain ⟨F, hFe⟩ : ∃ F, F = w.heap.size + 1 := ⟨_, rfl⟩
  rw [← hFe] at HF
  rw [← hXe] at hX
  have HW := Lib.hid hW
  have HXe := Lib.hid hXe
  have HFe := Lib.hid hFe
  clear hW hXe hFe
  go_enter Tryz.func50, Tryz.ntmps50
  go_wp2_with fail
  rw [← HW.out, ← HFe.out, ← HXe.out]
  refine (HL.out _ false hb0.out).mono ?_
  rintro e w1 ⟨rfl, hr1, hb1⟩
  obtain ⟨g, hg⟩ : ∃ g, g = W0.heap.size := ⟨_, rfl⟩
  rw [← hg] at hr1 ⊢
  have hX1 := hX.out.up hb1
  have hF1 := HF.out.up hb1
  have B3 := hX1.box3
  unfold Box3 at B3
  obtain ⟨c0, c1, c2⟩ := B3
  have f0 : w1.cell? ⟨F, 0, none⟩ = some (.int .i64 (a : Int)) := hF1.cell 0
  have hB := Lib.hid (lots hb0.out hb1)
  have hz : X < w1.heap.size ∧ F < w1.heap.size := ⟨hX1.lt, hF1.lt⟩
  obtain ⟨z0, z1⟩ := hz
  have HX1 := Lib.hid hX1
  have HF1 := Lib.hid hF1
  have HR1 := Lib.hid hr1
  clear hb1 hX1 hF1 hr1 hg
  go_wp2_with fail
  have hb2 := (boxed w1 (.cells #[.slice (some ⟨g, 0, none⟩) k k] 49)).alloc (by simp) (.cells #[.int .i64 ((a : Int) + (k : Int))] 3)
  have hI := (Has.fresh w1 49 #[.slice (some ⟨g, 0, none⟩) k k]).more (.cells #[.int .i64 ((a : Int) + (k : Int))] 3)
  have hE := Has.fresh (w1.alloc (.cells #[.slice (some ⟨g, 0, none⟩) k k] 49)) 3 #[.int .i64 ((a : Int) + (k : Int))]
  rw [show (w1.alloc (.cells #[.slice (some ⟨g, 0, none⟩) k k] 49)).heap.size = w1.heap.size + 1 by simp] at hE
  obtain ⟨W2, hW2⟩ : ∃ W2, W2 = (w1.alloc (.cells #[.slice (some ⟨g, 0, none⟩) k k] 49)).alloc (.cells #[.int .i64 ((a : Int) + (k : Int))] 3) := ⟨_, rfl⟩
  rw [← hW2] at hb2 hI hE
  obtain ⟨E, hEe⟩ : ∃ E, E = w1.heap.size + 1 := ⟨_, rfl⟩
  obtain ⟨I, hIe⟩ : ∃ I, I = w1.heap.size := ⟨_, rfl⟩
  rw [← hEe] at hE
  rw [← hIe] at hI
  rw [← hW2, ← hEe, ← hIe]
  refine (HL.out _ true (lots hB.out hb2)).mono ?_
  rintro e w3 ⟨rfl, hr3, hb3⟩
  obtain ⟨c, hc⟩ : ∃ c, c = W2.heap.size := ⟨_, rfl⟩
  rw [← hc] at hr3 ⊢
  have h23 := lots hb2 hb3
  have hX3 := HX1.out.up h23
  have hF3 := HF1.out.up h23
  have hR3 := HR1.out.up h23
  have hI3 := hI.up hb3
  have hE3 := hE.up hb3
  have hB3 := Lib.hid (lots hB.out h23)
  have HX3 := Lib.hid hX3
  have HF3 := Lib.hid hF3
  have HR3 := Lib.hid hR3
  have HI3 := Lib.hid hI3
  have HE3 := Lib.hid hE3
  have HC3 := Lib.hid hr3
  clear hW2 hEe hIe hc h23 hX3 hF3 hR3 hI3 hE3 hr3 hb3 hb2 hI hE c0 c1 c2 f0 z0 z1
  go_wp2
  go_ret2
  have hb4 := (boxed w3 (.cells #[.slice (some ⟨c, 0, none⟩) k k] 49)).alloc (by simp) (.cells ((four X F E I w3.heap.size).map fnV).toArray 101)
  have hC4 := (Has.fresh w3 49 #[.slice (some ⟨c, 0, none⟩) k k]).more (.cells ((four X F E I w3.heap.size).map fnV).toArray 101)
  have hG4 := Has.fresh (w3.alloc (.cells #[.slice (some ⟨c, 0, none⟩) k k] 49)) 101 ((four X F E I w3.heap.size).map fnV).toArray
  rw [show (w3.alloc (.cells #[.slice (some ⟨c, 0, none⟩) k k] 49)).heap.size = w3.heap.size + 1 by simp] at hG4
  refine ⟨X, F, E, I, g, w3.heap.size, c, w3.heap.size + 1, rfl, by have := hB3.out.size; omega, hG4, ?_, lots hB3.out hb4⟩
  have hkl : nb x.data.toList.length = k := by rw [list_size, ← HKk.out]
  refine ⟨HX3.out.up hb4, HF3.out.up hb4, ?_, ?_, HR3.out.up hb4, ?_, HC3.out.up hb4⟩
  · rw [hkl, show ((a + k : Nat) : Int) = (a : Int) + (k : Int) by omega]; exact HE3.out.up hb4
  · rw [hkl]; exact HI3.out.up hb4
  · rw [hkl]; exact hC4
end Go.Proofs.YtjffcgimdffkoaaGreatDoor
