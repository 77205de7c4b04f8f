/- Arguments of the codec's statements: what is read of them. -/
import Derived.Test.YtmfgdpbnnlmjhaaCxA
import Derived.Test.YtmfgdpbnnlmjhaaCxG
import Derived.ProofKit
import Derived.OpenShut
import Derived.ShutString
import Derived.ChangeOld
import Derived.ChangeSlices
import Derived.SliceStrings
import Derived.SizedLaws
namespace Go.Proofs.Ytmfgdpbnnlmjhaa
open Go.ChangeShapes Go.WideShapes Go.ChangeAt Go.RowKit

theorem own : ownKnob Try.prog.godebug = none := by kernel_rfl
theorem laidOut : laidOutB Try.prog = true := by kernel_rfl
theorem cStr : Try.prog.cellsOf 9 = 1 := by kernel_rfl
theorem cI64 : Try.prog.cellsOf 2 = 1 := by kernel_rfl
theorem cI64s : Try.prog.cellsOf 22 = 1 := by kernel_rfl
theorem cInt : Try.prog.cellsOf 3 = 1 := by kernel_rfl
theorem cCmd : Try.prog.cellsOf 24 = 2 := by kernel_rfl

section
variable {H : Type} {enc : TypeId × Value → H} {W : World} {base : Nat} {spare : Nat → Bool} {held : Bool}
theorem plain_addr {w : World} {a : Addr} {v : Value} (h : w.cell? (a.add 0) = some v) : ∃ b o, a = ⟨b, o, none⟩ := by
  obtain ⟨b, o, sp⟩ := a
  cases sp with
  | none => exact ⟨b, o, rfl⟩
  | some u =>
    exfalso
    simp only [Addr.add] at h
    unfold World.cell? at h
    split at h <;> simp at h
theorem addr_at (b off : Nat) (k : Nat) : (⟨b, off, none⟩ : Addr).add k = ⟨b, off + k, none⟩ := by
  unfold Addr.add
  split
  · subst k; rfl
  · rfl
/-- a list of strings that came in -/
theorem strs_read {fuel : Nat} {a : Option Addr} {len cap : Nat} {y : DataW H × List MemPlace} (h : DataW.trod enc Try.prog W base spare held fuel 40 [.slice a len cap] = some y) :
    ∃ xs : List ByteArray, xs.length = len ∧ len ≤ cap ∧ StrA W a xs ∧ ((xs = [] ∧ y.1 = .nil) ∨ ∃ sp, y.1 = .slice (strs xs) sp) := by
  rcases open_strings Try.underlying40 Try.underlying9 cStr h with ⟨hcs, hx⟩ | ⟨x, l, c, ss, hcs, _, hl, _, hz, hx, hcell, _⟩
  · simp at hcs
    obtain ⟨rfl, rfl, rfl⟩ := hcs
    exact ⟨[], rfl, Nat.le_refl _, .inl rfl, .inl ⟨rfl, by rw [hx]⟩⟩
  · simp at hcs
    obtain ⟨rfl, rfl, rfl⟩ := hcs
    have hlm : len ≤ ss.length := by rw [hz]; split <;> omega
    refine ⟨ss.take len, by rw [List.length_take]; omega, hl, ?_, .inr ⟨_, by rw [hx]⟩⟩
    rcases Nat.eq_zero_or_pos len with q | q
    · subst q; exact .inl (by simp)
    · right
      obtain ⟨b, o, rfl⟩ := plain_addr (hcell 0 (by omega))
      refine ⟨b, o, rfl, fun j z hj => ?_⟩
      have hjl : j < len := by
        rcases Nat.lt_or_ge j len with r | r
        · exact r
        · rw [List.getElem?_eq_none (by rw [List.length_take]; omega)] at hj; cases hj
      have := hcell j (by omega)
      rw [addr_at] at this
      rw [this, List.getD_eq_getElem?_getD]
      rw [List.getElem?_take, if_pos hjl] at hj
      rw [hj]; rfl
theorem weights_all {P : Program} {e : TypeId} {n : Nat} : ∀ {l : List (DataW H)} {d : DataW H}, d ∈ l → n ∈ d.weights P e → n ∈ DataW.weightsAll P e l
  | d0 :: l, d, hd, hn => by
    unfold DataW.weightsAll
    rcases List.mem_cons.mp hd with rfl | hd
    · exact List.mem_append_left _ hn
    · exact List.mem_append_right _ (weights_all hd hn)
theorem strs_sized {ts : List TypeId} {ds : List (DataW H)} (h : (DataW.weightsEach Try.prog ts ds).all (· ≤ reachBytes) = true) {j : Nat} (ht : ts[j]? = some 40) {xs : List ByteArray} {sp : List (DataW H)} (hd : ds[j]? = some (.slice (strs xs) sp)) :
    xs.length ≤ 140737488355328 ∧ ∀ x ∈ xs, x.size ≤ 140737488355328 := by
  have hr := reachBytes_lt
  have b9 : Try.prog.bytesOf 9 = 16 := by kernel_rfl
  constructor
  · have := sized_slice h ht hd Try.underlying40
    rw [b9] at this
    simp only [strs, List.length_map] at this
    omega
  · intro x hx
    have hm : (DataW.lit (.string x.data.toList) : DataW H) ∈ strs xs := List.mem_map.mpr ⟨x, hx, rfl⟩
    have hw : x.data.toList.length ∈ (DataW.lit (.string x.data.toList) : DataW H).weights Try.prog 9 := by simp [DataW.weights]
    have h1 := weights_all hm hw
    have h2 : x.data.toList.length ∈ (DataW.slice (strs xs) sp : DataW H).weights Try.prog 40 := by
      simp only [DataW.weights, Try.underlying40]
      exact List.mem_cons_of_mem _ (List.mem_append_left _ h1)
    have := List.all_eq_true.1 h _ (DataW.weights_mem_each ht hd _ h2)
    rw [list_size] at this
    simp at this
    omega
/-- a list of numbers that came in -/
theorem nums_read {fuel : Nat} {cs : List Value} {y : DataW H × List MemPlace} (h : DataW.trod enc Try.prog W base spare held fuel 22 cs = some y) :
    ∃ (a : Option Addr) (xs : List Int) (cap : Nat), cs = [.slice a xs.length cap] ∧ NumA W a xs ∧ ∀ x ∈ xs, Am x := by
  rcases open_ints Try.underlying22 Try.underlying2 cI64 h with ⟨hcs, _⟩ | ⟨a, len, cap, zs, hcs, _, hl, _, hz, _, hcell, hw⟩
  · exact ⟨none, [], 0, hcs, .inl rfl, fun x hx => by cases hx⟩
  · have hlm : len ≤ zs.length := by rw [hz]; split <;> omega
    have hll : (zs.take len).length = len := by rw [List.length_take]; omega
    refine ⟨some a, zs.take len, cap, by rw [hcs, hll], ?_, fun x hx => bounds_i64 (hw x (List.mem_of_mem_take hx))⟩
    rcases Nat.eq_zero_or_pos len with q | q
    · subst q; exact .inl (by simp)
    · right
      obtain ⟨b, o, rfl⟩ := plain_addr (hcell 0 (by omega))
      refine ⟨b, o, rfl, fun j z hj => ?_⟩
      have hjl : j < len := by
        rcases Nat.lt_or_ge j len with r | r
        · exact r
        · rw [List.getElem?_eq_none (by rw [hll]; exact r)] at hj; cases hj
      have := hcell j (by omega)
      rw [addr_at] at this
      rw [this, List.getD_eq_getElem?_getD]
      rw [List.getElem?_take, if_pos hjl] at hj
      rw [hj]; rfl
/-- a command that came in -/
theorem cmd_read {fuel : Nat} {cs : List Value} {y : DataW H × List MemPlace} (h : DataW.trod enc Try.prog W base spare held fuel 24 cs = some y) :
    ∃ (k : Int) (a : Option Addr) (xs : List Int) (cap : Nat), cs = [.int .i64 k, .slice a xs.length cap] ∧ NumA W a xs ∧ ∀ x ∈ xs, Am x := by
  obtain ⟨ys, n, _, _, hlen, hyl, hf⟩ := DataW.trod_struct Try.underlying24 h
  have h2 : cs.length = 2 := hlen.trans cCmd
  match cs, h2 with
  | [c0, c1], _ =>
    match ys, hyl with
    | [y0, y1], _ =>
      have g0 : DataW.trod enc Try.prog W base spare held n 3 [c0] = some y0 := by simpa [cInt] using hf 0 _ rfl
      have g1 : DataW.trod enc Try.prog W base spare held n 22 [c1] = some y1 := by simpa [cI64s] using hf 1 _ rfl
      obtain ⟨k, e0, _, _⟩ := DataW.trod_int Try.underlying3 g0
      obtain ⟨a, xs, cap, e1, hN, hm⟩ := nums_read g1
      simp at e0 e1
      subst e0 e1
      exact ⟨k, a, xs, cap, rfl, hN, hm⟩
end
end Go.Proofs.Ytmfgdpbnnlmjhaa
