/- JournalDoes: whatever its arguments. -/
import Derived.Test.YtjffcgimdffkoaaGreatDoorRows
import Derived.ProofKit
import Derived.OpenShut
import Derived.ShutString
import Derived.LaidMore
import Derived.Lay
import Derived.Lib.LaidTab
import Derived.Stop.Joined
import Derived.SliceStrings
import Derived.SizedLaws
import Derived.Test.YtjffcgimdffkoaaGreatDoorQjN
import Derived.Test.YtjffcgimdffkoaaGreatDoorRcH
namespace Go.Proofs.YtjffcgimdffkoaaGreatDoor
open Go.RowKit

set_option maxRecDepth 100000 in
set_option maxHeartbeats 4000000 in
theorem does_any (w : World) (n : Int) (a : Option Addr) (len cap : Nat) (L : Nat → OpJ) (hL : OpsJ w a len L) (hl : len ≤ 9223372036854775807) (hn9 : -9223372036854775808 ≤ n ∧ n ≤ 9223372036854775807) (hT : Tb w) :
    Calls Tryz.prog 3 #[.int .i64 n, .slice a len cap] w fun e w' => e = .returned (.bool true) ∧ Below w.heap.size w w' := by
  by_cases h60 : n ≤ 60
  · by_cases h30 : len ≤ 30
    · by_cases h3 : 3 ≤ n
      · exact does_main w n a len cap L hL h3 h60 h30 hT
      · have HT := Lib.hid hT
        have HL := Lib.hid hL
        have hn60 : ¬ (60 < n) := by omega
        have hl30 : ¬ (30 < (len : Int)) := by omega
        clear hT hL
        go_enter Tryz.func3, Tryz.ntmps3
        go_wp2_with fail
        refine (jn_awake w HT.out).mono ?_
        rintro e w1 ⟨rfl, hb1⟩
        have B1 := Lib.hid hb1
        clear hb1
        go_wp2_with fail
        refine (size_any w1 a len cap L (HL.out.up B1.out) (by omega)).mono ?_
        rintro e w' ⟨N, rfl, ⟨hN0, hN1⟩, hN, rfl⟩
        clear hN
        by_cases h4 : N ≤ 4000
        · have h4' : ¬ (4000 < N) := by omega
          go_wp2_with fail
          refine (new_no w1 n (by omega)).mono ?_
          rintro e w' ⟨rfl, rfl⟩
          go_wp2_with fail
          refine (rnew_no w1 n (by omega)).mono ?_
          rintro e w' ⟨rfl, rfl⟩
          go_wp2
          go_ret
          exact ⟨rfl, B1.out⟩
        · have h4' : 4000 < N := by omega
          go_wp2
          go_ret
          exact ⟨rfl, B1.out⟩
    · have HT := Lib.hid hT
      have hn60 : ¬ (60 < n) := by omega
      have hl30 : 30 < (len : Int) := by omega
      clear hT hL
      go_enter Tryz.func3, Tryz.ntmps3
      go_wp2_with fail
      refine (jn_awake w HT.out).mono ?_
      rintro e w1 ⟨rfl, hb1⟩
      have B1 := Lib.hid hb1
      clear hb1
      go_wp2
      go_ret
      exact ⟨rfl, B1.out⟩
  · have HT := Lib.hid hT
    have hn60 : 60 < n := by omega
    clear hT hL
    go_enter Tryz.func3, Tryz.ntmps3
    go_wp2_with fail
    refine (jn_awake w HT.out).mono ?_
    rintro e w1 ⟨rfl, hb1⟩
    have B1 := Lib.hid hb1
    clear hb1
    go_wp2
    go_ret
    exact ⟨rfl, B1.out⟩
end Go.Proofs.YtjffcgimdffkoaaGreatDoor

namespace Go.Proofs.YtjffcgimdffkoaaGreatDoor
open Go.ChangeShapes Go.WideShapes Go.ChangeAt Go.RowKit

theorem own : ownKnob Tryz.prog.godebug = none := by kernel_rfl
theorem laidOut : laidOutB Tryz.prog = true := by kernel_rfl
theorem gHalves : Tryz.prog.globalNamed "quitrent/record.halves" = some 0 := by kernel_rfl
theorem tHalves : (Tryz.prog.globals[0]?).map (·.type) = some 127 := by kernel_rfl
theorem cHalves : Tryz.prog.cellsOf 127 = 16 := by kernel_rfl
theorem cU32 : Tryz.prog.cellsOf 97 = 1 := by kernel_rfl
theorem cStr : Tryz.prog.cellsOf 9 = 1 := by kernel_rfl
/-- the rows' list -/
abbrev laid3 : List (String × DataW Unit) := [("unicode/utf8.acceptRanges", Rows.laid_unicode_utf8_acceptRanges), ("quitrent/record.halves", Rows.laid_quitrent_record_halves), ("unicode/utf8.first", Rows.laid_unicode_utf8_first)]

theorem laidMet_tail {P : Program} {x : String × DataW Unit} {l : List (String × DataW Unit)} {w : World} (h : laidMet P (x :: l) w) : laidMet P l w := by
  obtain ⟨ps, hl, hn, hc⟩ := h
  obtain ⟨g, t, cs, fuel, p, q, _, _, _, _, hq, rfl⟩ := hl
  exact ⟨q, hq, (List.nodup_append.1 hn).2.1, fun b off hm => hc b off (List.mem_append_right _ hm)⟩
theorem tb_of_laid {W : World} (h : laidMetH Tryz.prog laid3 W) : Tb W := by
  rw [MakeChecks.laidMetH_plain _ _ _ (by kernel_rfl)] at h
  have hT := Lib.tabIs_of_head (k := .u32) (zs := [0, 498536548, 997073096, 651767980, 1994146192, 1802195444, 1303535960, 1342533948, 3988292384, 4027552580, 3604390888, 3412177804, 2607071920, 2262029012, 2685067896, 3183342108]) gHalves tHalves Tryz.underlying127 Tryz.underlying97 cU32 cHalves (laidMet_tail h)
  intro i hi
  rw [hT.cell gHalves i hi]
  congr 2
  have : i = 0 ∨ i = 1 ∨ i = 2 ∨ i = 3 ∨ i = 4 ∨ i = 5 ∨ i = 6 ∨ i = 7 ∨ i = 8 ∨ i = 9 ∨ i = 10 ∨ i = 11 ∨ i = 12 ∨ i = 13 ∨ i = 14 ∨ i = 15 := by omega
  rcases this with rfl | rfl | rfl | rfl | rfl | rfl | rfl | rfl | rfl | rfl | rfl | rfl | rfl | rfl | rfl | rfl <;> decide

theorem laid_met (os : Os) (args : Array Value) : laidMetH Tryz.prog laid3 ((World.laidAll Tryz.prog os laid3).forCall (fun _ _ => 0) ⟨#[], args, []⟩).memory := by
  rw [MakeChecks.laidMetH_plain _ _ _ (by kernel_rfl)]
  exact laidMet_laidAll _ (by kernel_rfl) (by kernel_rfl)

section
variable {H : Type} {enc : TypeId × Value → H} {W : World} {base : Nat} {spare : Nat → Bool} {held : Bool}
theorem plain_addr {w : World} {a : Addr} {v : Value} (h : w.cell? (a.add 0) = some v) : ∃ b o, a = ⟨b, o, none⟩ := by
  obtain ⟨b, o, sp⟩ := a
  cases sp with
  | none => exact ⟨b, o, rfl⟩
  | some u =>
    exfalso
    simp only [Addr.add] at h
    unfold World.cell? at h
    split at h <;> simp at h
theorem addr_at (b off : Nat) (k : Nat) : (⟨b, off, none⟩ : Addr).add k = ⟨b, off + k, none⟩ := by
  unfold Addr.add
  split
  · subst k; rfl
  · rfl
/-- a list of strings that came in -/
theorem strs_read {fuel : Nat} {a : Option Addr} {len cap : Nat} {y : DataW H × List MemPlace} (h : DataW.trod enc Tryz.prog W base spare held fuel 49 [.slice a len cap] = some y) :
    ∃ xs : List ByteArray, xs.length = len ∧ len ≤ cap ∧ StrA W a xs ∧ ((xs = [] ∧ y.1 = .nil) ∨ ∃ sp, y.1 = .slice (strs xs) sp) := by
  rcases open_strings Tryz.underlying49 Tryz.underlying9 cStr h with ⟨hcs, hx⟩ | ⟨x, l, c, ss, hcs, _, hl, _, hz, hx, hcell, _⟩
  · simp at hcs
    obtain ⟨rfl, rfl, rfl⟩ := hcs
    exact ⟨[], rfl, Nat.le_refl _, .inl rfl, .inl ⟨rfl, by rw [hx]⟩⟩
  · simp at hcs
    obtain ⟨rfl, rfl, rfl⟩ := hcs
    have hlm : len ≤ ss.length := by rw [hz]; split <;> omega
    refine ⟨ss.take len, by rw [List.length_take]; omega, hl, ?_, .inr ⟨_, by rw [hx]⟩⟩
    rcases Nat.eq_zero_or_pos len with q | q
    · subst q; exact .inl (by simp)
    · right
      obtain ⟨b, o, rfl⟩ := plain_addr (hcell 0 (by omega))
      refine ⟨b, o, rfl, fun j z hj => ?_⟩
      have hjl : j < len := by
        rcases Nat.lt_or_ge j len with r | r
        · exact r
        · rw [List.getElem?_eq_none (by rw [List.length_take]; omega)] at hj; cases hj
      have := hcell j (by omega)
      rw [addr_at] at this
      rw [this, List.getD_eq_getElem?_getD]
      rw [List.getElem?_take, if_pos hjl] at hj
      rw [hj]; rfl
theorem weights_all {P : Program} {e : TypeId} {n : Nat} : ∀ {l : List (DataW H)} {d : DataW H}, d ∈ l → n ∈ d.weights P e → n ∈ DataW.weightsAll P e l
  | d0 :: l, d, hd, hn => by
    unfold DataW.weightsAll
    rcases List.mem_cons.mp hd with rfl | hd
    · exact List.mem_append_left _ hn
    · exact List.mem_append_right _ (weights_all hd hn)
theorem strs_sized {ts : List TypeId} {ds : List (DataW H)} (h : (DataW.weightsEach Tryz.prog ts ds).all (· ≤ reachBytes) = true) {j : Nat} (ht : ts[j]? = some 49) {xs : List ByteArray} {sp : List (DataW H)} (hd : ds[j]? = some (.slice (strs xs) sp)) :
    xs.length ≤ 140737488355328 ∧ ∀ x ∈ xs, x.size ≤ 140737488355328 := by
  have hr := reachBytes_lt
  have b9 : Tryz.prog.bytesOf 9 = 16 := by kernel_rfl
  constructor
  · have := sized_slice h ht hd Tryz.underlying49
    rw [b9] at this
    simp only [strs, List.length_map] at this
    omega
  · intro x hx
    have hm : (DataW.lit (.string x.data.toList) : DataW H) ∈ strs xs := List.mem_map.mpr ⟨x, hx, rfl⟩
    have hw : x.data.toList.length ∈ (DataW.lit (.string x.data.toList) : DataW H).weights Tryz.prog 9 := by simp [DataW.weights]
    have h1 := weights_all hm hw
    have h2 : x.data.toList.length ∈ (DataW.slice (strs xs) sp : DataW H).weights Tryz.prog 49 := by
      simp only [DataW.weights, Tryz.underlying49]
      exact List.mem_cons_of_mem _ (List.mem_append_left _ h1)
    have := List.all_eq_true.1 h _ (DataW.weights_mem_each ht hd _ h2)
    rw [list_size] at this
    simp at this
    omega
end
end Go.Proofs.YtjffcgimdffkoaaGreatDoor
