/- The texts of bytes: part, cloned, Parts. -/
import Derived.Test.YtmfgdpbnnlmjhaaCxF
import Derived.Laws.OwnMore
namespace Go.Proofs.Ytmfgdpbnnlmjhaa
open Go.RowKit

theorem cut_mid (a b c : List UInt8) : (str (a ++ (b ++ c))).extract a.length (a.length + b.length) = str b := by
  rw [← str_of ((str (a ++ (b ++ c))).extract a.length (a.length + b.length)), Lib.extract_data, str_list]
  simp
set_option maxHeartbeats 2000000 in
theorem part_no (r : List UInt8) (w : World) (hl : r.length ≤ 1000000) (h : Pr r none) :
    Calls Try.prog 32 #[.string (str r)] w fun e w' => e = .returned (.tuple #[.string ⟨#[]⟩, .int .i64 0, .int .i64 2]) ∧ w = w' := by
  obtain ⟨a, ha⟩ := tk_ex r
  have hsz := str_size r
  cases a with
  | none =>
    have TC := Lib.hid (take_no r w ha)
    obtain ⟨X, hX⟩ : ∃ X, X = str r := ⟨_, rfl⟩
    rw [← hX] at TC ⊢
    clear hX h ha hsz
    go_enter Try.func32, Try.ntmps32
    go_wp2_with fail
    refine TC.out.mono ?_
    rintro e w' ⟨rfl, rfl⟩
    go_wp2
    go_ret3
    exact ⟨rfl, rfl⟩
  | some n =>
    have TC := Lib.hid (take_yes r n w ha)
    obtain ⟨hn, q, hq⟩ := ha
    have hu10 := nl_ten hn
    have hlen : r.length = nl n + q.length := by rw [hq, List.length_append]; rfl
    obtain ⟨u, hu⟩ : ∃ u, u = nl n := ⟨_, rfl⟩
    obtain ⟨X, hX⟩ : ∃ X, X = str r := ⟨_, rfl⟩
    rw [← hu] at hlen hu10
    rw [← hX] at hsz
    have hX6 : X.size ≤ 1000000 := by omega
    have hXu : (X.size : Int) - (u : Int) = ((r.length - u : Nat) : Int) := by omega
    obtain ⟨m, hm⟩ : ∃ m, m = r.length - u := ⟨_, rfl⟩
    rw [← hm] at hXu
    rw [← hX, ← hu] at TC
    rw [← hX]
    by_cases h0 : n < 0
    · clear hX h hq hu hn hlen hsz hm
      go_enter Try.func32, Try.ntmps32
      go_wp2_with fail
      refine TC.out.mono ?_
      rintro e w' ⟨rfl, rfl⟩
      go_wp2
      go_ret3
      exact ⟨rfl, rfl⟩
    · have hmn : (m : Int) < n := by
        rcases Int.lt_or_le (m : Int) n with z | z
        · exact z
        · exfalso
          have hnn : ((n.toNat : Nat) : Int) = n := by omega
          exact h _ _ (pr_hit (n := n.toNat) (by rw [hnn]; exact hq) (by omega))
      have hn0 : ¬ (n < 0) := h0
      have hAm := hn
      unfold Am at hAm
      clear hX h hq hu hn hlen hsz hm h0
      go_enter Try.func32, Try.ntmps32
      go_wp2_with fail
      refine TC.out.mono ?_
      rintro e w' ⟨rfl, rfl⟩
      go_wp2
      go_ret3
      exact ⟨rfl, rfl⟩
set_option maxHeartbeats 2000000 in
theorem part_yes (t q : List UInt8) (w : World) (hl : (itm t ++ q).length ≤ 1000000) :
    Calls Try.prog 32 #[.string (str (itm t ++ q))] w fun e w' => e = .returned (.tuple #[.string (str t), .int .i64 ((itm t).length : Nat), .int .i64 0]) ∧ w = w' := by
  have hsz := str_size (itm t ++ q)
  have hit : (itm t).length = nl (t.length : Nat) + t.length := by unfold itm nl; rw [List.length_append]
  have hlen : (itm t ++ q).length = nl (t.length : Nat) + t.length + q.length := by rw [List.length_append, hit]
  have hn : Am (t.length : Int) := am_nat (by omega)
  have TC := Lib.hid (take_yes (itm t ++ q) (t.length : Nat) w ⟨hn, t ++ q, by rw [itm, List.append_assoc]⟩)
  have hu10 := nl_ten hn
  have hx : (str (itm t ++ q)).extract (nl (t.length : Nat)) (nl (t.length : Nat) + t.length) = str t := by
    have := cut_mid (enc (fold (t.length : Nat))) t q
    rw [itm, List.append_assoc]
    exact this
  obtain ⟨u, hu⟩ : ∃ u, u = nl (t.length : Nat) := ⟨_, rfl⟩
  obtain ⟨X, hX⟩ : ∃ X, X = str (itm t ++ q) := ⟨_, rfl⟩
  obtain ⟨n, hnn⟩ : ∃ n, n = t.length := ⟨_, rfl⟩
  obtain ⟨T, hT⟩ : ∃ T, T = str t := ⟨_, rfl⟩
  rw [← hnn] at hu TC hx hlen hit hu10
  rw [← hu] at TC hx hlen hit hu10
  rw [← hX] at TC hx hsz
  rw [← hT] at hx
  rw [← hX, ← hT, hit]
  have hXu : (X.size : Int) - (u : Int) = ((X.size - u : Nat) : Int) := by omega
  obtain ⟨m, hm⟩ : ∃ m, m = X.size - u := ⟨_, rfl⟩
  rw [← hm] at hXu
  have h1 : ¬ ((m : Int) < (n : Int)) := by omega
  have h2 : (u : Int) + (n : Int) ≤ (X.size : Int) := by omega
  have hX6 : X.size ≤ 1000000 := by omega
  have hm6 : m ≤ 1000000 := by omega
  have hn6 : n ≤ 1000000 := by omega
  clear hX hnn hT hu hn hlen hsz hm hit hl
  go_enter Try.func32, Try.ntmps32
  go_wp2_with fail
  refine TC.out.mono ?_
  rintro e w' ⟨rfl, rfl⟩
  go_wp2
  go_ret3
  exact ⟨by rw [← hx]; rfl, rfl⟩

/-- texts as cells -/
def strV (xs : List ByteArray) : List Value := xs.map Value.string
theorem strV_snoc (xs : List ByteArray) (x : ByteArray) : strV (xs ++ [x]) = strV xs ++ [.string x] := by simp [strV]
theorem infoStr8 : (Try.prog.info? 9).map (fun i => (i.zero, i.size, i.bytes)) = some (some (.string ⟨#[]⟩), 1, 16) := by kernel_rfl
/-- a slice of the call's own that holds texts -/
def OwnS (w : World) (B : Nat) (v : Value) (xs : List ByteArray) : Prop := w.ownsRow B 9 1 v xs.length (strV xs)
theorem OwnS.slice {w : World} {B : Nat} {v : Value} {xs : List ByteArray} (h : OwnS w B v xs) : ∃ a c, v = .slice a xs.length c ∧ StrA w a xs := by
  obtain ⟨hl, h | ⟨g, cap, cur, rfl, hb, hg, hn, hc, hs, ht⟩⟩ := h
  · obtain ⟨rfl, h0⟩ := h
    exact ⟨none, 0, by rw [h0], .inl (List.eq_nil_of_length_eq_zero h0)⟩
  · refine ⟨_, _, rfl, .inr ⟨g, 0, rfl, fun j x e => ?_⟩⟩
    rw [Nat.zero_add, cell_of_row w g j cur 9 (0, 0) hg]
    have hj : j < xs.length := by
      rcases Nat.lt_or_ge j xs.length with q | q
      · exact q
      · rw [List.getElem?_eq_none q] at e; cases e
    have h1 : cur.toList[j]? = (strV xs)[j]? := by rw [← ht, List.getElem?_take, if_pos (by omega)]
    rw [← Array.getElem?_toList, h1]
    simp [strV, e]
theorem OwnS.up {w w' : World} {B : Nat} {v : Value} {xs : List ByteArray} (h : OwnS w B v xs) (k : Below w.heap.size w w') : OwnS w' B v xs :=
  World.ownsRow.kept (row := none) h ⟨k.os, k.tape, k.output, k.size, fun i hi _ => k.block i hi⟩ (by cases e : v.ownBlock with
    | none => exact .inl rfl
    | some g => exact .inr (by simp))
theorem one_text (x : ByteArray) : ∀ u ∈ [Value.string x], u.oneCell' = true := fun u hu => by simp at hu; subst hu; rfl
set_option maxHeartbeats 2000000 in
theorem cloned_any (B : Nat) (v : Value) (xs : List ByteArray) (w : World) (h : OwnS w B v xs) (hB : B ≤ w.heap.size) (hz : ∀ x ∈ xs, x.size ≤ 1000000) (hn : xs.length ≤ 1000000) :
    Calls Try.prog 33 #[v] w fun e w' => e = .returned v ∧ OwnS w' B v xs ∧ Below B w w' := by
  have HO := Lib.hid h
  obtain ⟨hl, h0 | ⟨g, cap, cur, rfl, hb, _⟩⟩ := h
  · obtain ⟨rfl, h0⟩ := h0
    clear hl h0 hz hn hB
    go_enter Try.func33, Try.ntmps33
    go_wp2_with fail
    go_loopw [7] (fun i wr => i = .int .i64 0 ∧ wr = w) (fun _ _ => 0)
    case atStart => exact ⟨rfl, rfl⟩
    case round =>
      obtain ⟨rfl, rfl⟩ := hrel
      go_wp2
      go_ret
      exact ⟨rfl, HO.out, Below.refl _ _⟩
  · obtain ⟨N, hN⟩ : ∃ N, N = xs.length := ⟨_, rfl⟩
    rw [← hN] at HO hn ⊢
    have HL := Lib.hid hN
    have HZ := Lib.hid hz
    have HBs := Lib.hid hB
    have Hb := Lib.hid hb
    clear hl hN hz hB hb
    go_enter Try.func33, Try.ntmps33
    go_wp2_with fail
    go_loopw [7] (fun i wr => ∃ k : Nat, k ≤ N ∧ i = .int .i64 (k : Int) ∧ Hid (OwnS wr B (.slice (some ⟨g, 0, none⟩) N cap) xs ∧ Below B w wr)) (fun i _ => N - (intOf i).toNat)
    case atStart => exact ⟨0, Nat.zero_le _, rfl, HO.out, Below.refl _ _⟩
    case round =>
      obtain ⟨k, hk, rfl, HI⟩ := hrel
      by_cases hlt : k < N
      · have hkx : k < xs.length := by rw [← HL.out]; exact hlt
        have ho : World.ownsRow wr B 9 1 (.slice (some ⟨g, 0, none⟩) N cap) N (strV xs) := by have := HI.out.1; unfold OwnS at this; rwa [← HL.out] at this
        obtain ⟨x, hx⟩ : ∃ x, x = xs[k] := ⟨_, rfl⟩
        have hsk : (strV xs)[k]? = some (.string x) := by simp [strV, hkx, hx]
        have hcell : wr.cell? ⟨g, k, none⟩ = some (.string x) := by rw [ho.cellAt k (by omega), hsk]
        have hx6 : x.size ≤ 281474976710656 := by have := HZ.out x (by rw [hx]; exact List.getElem_mem _); omega
        have hset : (strV xs).set k (.string x) = strV xs := by
          apply List.ext_getElem?
          intro j
          rw [List.getElem?_set]
          split
          · next e => subst e; rw [if_pos (by simpa [strV] using hkx)]; exact hsk.symm
          · rfl
        have HS := Lib.hid hset
        have CL := Lib.hid (clone_any x wr hx6)
        clear hx hx6 ho hsk hset
        go_wp2_with fail
        refine CL.out.mono ?_
        rintro e w1 ⟨rfl, hb1⟩
        have O1 := Lib.hid (HI.out.1.up hb1)
        have C1 := Lib.hid (HI.out.2.trans (hb1.mono (Nat.le_trans HBs.out HI.out.2.size)))
        have hcell1 := kcell hb1 hcell
        have ho1 : World.ownsRow w1 B 9 1 (.slice (some ⟨g, 0, none⟩) N cap) N (strV xs) := by have := O1.out; unfold OwnS at this; rwa [← HL.out] at this
        have hf1 := ho1.frozenAt k
        have hst := (ho1.stored k (.string x)).1
        rw [HS.out] at hst
        have HD : Hid (OwnS (w1.setCell ⟨g, k, none⟩ (.string x)) B (.slice (some ⟨g, 0, none⟩) N cap) xs ∧ Below B w (w1.setCell ⟨g, k, none⟩ (.string x))) := by
          refine ⟨?_, C1.out.setCell Hb.out _⟩
          unfold OwnS
          rw [← HL.out]
          exact hst
        clear hb1 hcell ho1 hst O1 C1
        go_wp2
        go_roundw
        case rel => exact ⟨k + 1, by omega, by go_num, HD⟩
        case measure => simp [intOf]; omega
      · clear hk
        go_wp2
        go_ret
        exact ⟨rfl, HI.out⟩
end Go.Proofs.Ytmfgdpbnnlmjhaa
