/- Steps, one behind the other. -/
import Derived.Test.YtjffcgimdffkoaaDoorJnE
namespace Go.Proofs.YtjffcgimdffkoaaDoor
open Go.RowKit

/-- a function of no parameters, with what it has caught -/
def fnV (f : FuncId × Array Value) : Value := .func (.func f.1) #[] f.2
/-- step i of steps: in whichever world what it needs (K) stands, it does its writes -/
def StepsOk (p b : Nat) (s : SS) (K : World → Prop) (fs : List (FuncId × Array Value)) (ls : List (List (Nat × ByteArray))) : Prop :=
  ∀ i f l, fs[i]? = some f → ls[i]? = some l → ∀ (W : World) (s' : SS) (m : Int), At W p b s' m → K W → (i = 0 → s' = s) → s'.n = s.n → m ≤ 900000 →
    (callFunc f.1 f.2).run Tryd.prog W = .ok (.enter f.1 f.2) W ∧ Calls Tryd.prog f.1 f.2 W fun e w' => e = .returned (.int .i64 (runW s' l).2) ∧ At w' p b (runW s' l).1 (m + 1000) ∧ But p b W w'
/-- functions at G -/
def Fns (w : World) (G : Nat) (fs : List (FuncId × Array Value)) : Prop := ∃ cs : Array Value, Has w G 90 cs ∧ ∀ (i : Nat) (f : FuncId × Array Value), fs[i]? = some f → cs[i]? = some (fnV f)
theorem Has.fns {w : World} {G : Nat} {fs : List (FuncId × Array Value)} (h : Has w G 90 (fs.map fnV).toArray) : Fns w G fs := ⟨(fs.map fnV).toArray, h, fun i f (e : fs[i]? = some f) => by simp [e]⟩
theorem Fns.but {w w' : World} {p b G : Nat} {fs : List (FuncId × Array Value)} {s : SS} {m : Int} (h : Fns w G fs) (hA : At w p b s m) (k : But p b w w') : Fns w' G fs := by
  obtain ⟨cs, hc, hf⟩ := h
  exact ⟨cs, k.hasT hA hc (by decide) (by decide), hf⟩
theorem runW_n (l : List (Nat × ByteArray)) : ∀ s : SS, (runW s l).1.n = s.n := by
  induction l with
  | nil => intro s; rfl
  | cons x l ih =>
    obtain ⟨a, y⟩ := x
    intro s
    rw [runW_cons]
    split
    · rw [ih, wr_n]
    · exact wr_n _ _ _
theorem flat_take {α : Type} (ls : List (List α)) (i : Nat) (l : List α) (h : ls[i]? = some l) : (ls.take (i + 1)).flatten = (ls.take i).flatten ++ l := by
  have hi : i < ls.length := by
    by_cases q : i < ls.length
    · exact q
    · rw [List.getElem?_eq_none (by omega)] at h; cases h
  rw [List.take_succ_eq_append_getElem hi, List.flatten_append]
  rw [List.getElem?_eq_getElem hi] at h
  rw [Option.some.inj h]
  simp
theorem flat_split {α : Type} (ls : List (List α)) (i : Nat) : ls.flatten = (ls.take i).flatten ++ (ls.drop i).flatten := by
  rw [← List.flatten_append, List.take_append_drop]

set_option maxRecDepth 100000 in
set_option maxHeartbeats 4000000 in
theorem inOrder_any (w : World) (p b G c : Nat) (s : SS) (m : Int) (K : World → Prop) (fs : List (FuncId × Array Value)) (ls : List (List (Nat × ByteArray))) (hl : ls.length = fs.length) (h10 : fs.length ≤ 10)
    (hA : At w p b s m) (hm : m ≤ 800000) (hG : Fns w G fs) (hK : K w) (kept : ∀ W W' s' m', At W p b s' m' → K W → But p b W W' → K W') (ok : StepsOk p b s K fs ls) :
    Calls Tryd.prog 36 #[.slice (some ⟨G, 0, none⟩) fs.length c] w fun e w' =>
      e = .returned (.int .i64 (runW s ls.flatten).2) ∧ At w' p b (runW s ls.flatten).1 (m + 10000) ∧ But p b w w' := by
  obtain ⟨N, hN⟩ : ∃ N, N = fs.length := ⟨_, rfl⟩
  rw [← hN] at hl h10 ⊢
  have HA := Lib.hid hA
  have HG := Lib.hid hG
  have HK := Lib.hid hK
  have HKept := Lib.hid kept
  have HO := Lib.hid ok
  have HN := Lib.hid (And.intro hN hl)
  clear hA hG hK kept ok hN hl
  go_enter Tryd.func36, Tryd.ntmps36
  go_wp2_with fail
  go_loopw [8] (fun vi wr => ∃ i : Nat, i ≤ N ∧ vi = .int .i64 (i : Int) ∧ Hid ((runW s (ls.take i).flatten).2 = 0 ∧ At wr p b (runW s (ls.take i).flatten).1 (m + 1000 * i) ∧ K wr ∧ Fns wr G fs ∧ But p b w wr)) (fun vi _ => N - (intOf vi).toNat)
  case atStart => exact ⟨0, Nat.zero_le _, rfl, rfl, by simpa [runW] using HA.out, HK.out, HG.out, But.refl _ _ _⟩
  case round =>
    obtain ⟨i, hi, rfl, HI⟩ := hrel
    by_cases hlt : i < N
    · have hif : i < fs.length := by rw [← HN.out.1]; exact hlt
      have hil : i < ls.length := by rw [HN.out.2]; exact hlt
      obtain ⟨f, hf⟩ : ∃ f, fs[i]? = some f := ⟨_, List.getElem?_eq_getElem hif⟩
      obtain ⟨l, hlk⟩ : ∃ l, ls[i]? = some l := ⟨_, List.getElem?_eq_getElem hil⟩
      have hc0 : wr.cell? ⟨G, i, none⟩ = some (.func (.func f.1) #[] f.2) := by
        obtain ⟨cs, hc, hq⟩ := HI.out.2.2.2.1
        rw [hc.cell i]
        exact hq i f hf
      obtain ⟨si, hsi⟩ : ∃ si, si = (runW s (ls.take i).flatten).1 := ⟨_, rfl⟩
      obtain ⟨hcf, hcc⟩ := HO.out i f l hf hlk wr si (m + 1000 * i) (by rw [hsi]; exact HI.out.2.1) HI.out.2.2.1 (by intro z; rw [hsi, z]; rfl) (by rw [hsi]; exact runW_n _ _) (by omega)
      have HC := Lib.hid hcc
      have HT : Hid (runW s (ls.take (i + 1)).flatten = runW si l) := by
        show runW s (ls.take (i + 1)).flatten = runW si l
        rw [flat_take ls i l hlk, runW_append, if_pos HI.out.1, hsi]
      obtain ⟨E, hE⟩ : ∃ E, E = (runW si l).2 := ⟨_, rfl⟩
      rw [← hE] at HC
      have HE := Lib.hid hE
      obtain ⟨F, hF⟩ : ∃ F, F = f.1 := ⟨_, rfl⟩
      obtain ⟨U, hU⟩ : ∃ U, U = f.2 := ⟨_, rfl⟩
      rw [← hF, ← hU] at HC hc0 hcf
      have HAi := Lib.hid HI.out.2.1
      have HKi := Lib.hid HI.out.2.2.1
      have HGi := Lib.hid HI.out.2.2.2.1
      have HBi := Lib.hid HI.out.2.2.2.2
      clear hsi hE hF hU hf hlk hif hil HI hcc
      by_cases q0 : E = 0
      · have hE0 : (E != 0) = false := by rw [q0]; rfl
        have HQ0 := Lib.hid q0
        clear q0
        go_wp2_with fail
        refine HC.out.mono ?_
        rintro e w1 ⟨rfl, g1, g2⟩
        have HR : Hid ((runW s (ls.take (i + 1)).flatten).2 = 0 ∧ At w1 p b (runW s (ls.take (i + 1)).flatten).1 (m + 1000 * ((i + 1 : Nat) : Int)) ∧ K w1 ∧ Fns w1 G fs ∧ But p b w w1) := by
          rw [HT.out]
          refine ⟨HE.out.symm.trans HQ0.out, ?_, HKept.out _ _ _ _ HAi.out HKi.out g2, HGi.out.but HAi.out g2, HBi.out.trans g2⟩
          rw [show m + 1000 * ((i + 1 : Nat) : Int) = m + 1000 * i + 1000 by omega]
          exact g1
        clear hcf hc0 g1 g2
        go_wp2
        go_roundw
        case rel => exact ⟨i + 1, by omega, by go_num, HR⟩
        case measure => simp [intOf]; omega
      · have hE0 : (E != 0) = true := by simpa using q0
        have HQ0 := Lib.hid q0
        clear q0
        go_wp2_with fail
        refine HC.out.mono ?_
        rintro e w1 ⟨rfl, g1, g2⟩
        have HR : Hid (runW s ls.flatten = runW si l) := by
          show runW s ls.flatten = runW si l
          rw [flat_split ls (i + 1), runW_append, if_neg (by rw [HT.out]; exact fun z => HQ0.out (HE.out.trans z)), HT.out]
        have K1 := Lib.hid g1
        have K2 := Lib.hid (HBi.out.trans g2)
        clear hcf hc0 g1 g2
        go_wp2
        go_ret
        rw [HR.out, ← HE.out]
        exact ⟨rfl, K1.out.fine_more (by omega), K2.out⟩
    · have hin : i = N := by omega
      have HR : Hid ((runW s ls.flatten).2 = 0 ∧ At wr p b (runW s ls.flatten).1 (m + 1000 * i) ∧ But p b w wr) := by
        have h1 := HI.out.1
        have h2 := HI.out.2.1
        rw [hin, List.take_of_length_le (by rw [HN.out.2]; exact Nat.le_refl _)] at h1 h2
        exact ⟨h1, by rw [hin]; exact h2, HI.out.2.2.2.2⟩
      clear HI hin
      go_wp2
      go_ret
      rw [HR.out.1]
      exact ⟨rfl, HR.out.2.1.fine_more (by omega), HR.out.2.2⟩
end Go.Proofs.YtjffcgimdffkoaaDoor
