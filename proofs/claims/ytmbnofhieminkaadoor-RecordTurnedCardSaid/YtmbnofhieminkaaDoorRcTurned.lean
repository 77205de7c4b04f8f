/- RecordTurned: the core. -/
import Derived.Test.YtmbnofhieminkaaDoorRcK
import Derived.Lib.ConvBytes
namespace Go.Proofs.YtmbnofhieminkaaDoor
open Go.RowKit

theorem bw_below (w : World) (x : ByteArray) : Below w.heap.size w (Lib.bytesWorld w 5 x) :=
  ⟨rfl, rfl, rfl, by rw [Lib.bytesWorld_size]; omega, fun k hk => Lib.bytesWorld_at_old w 5 x k hk⟩
theorem bw_cell (w : World) (x : ByteArray) (j : Nat) (hj : j < x.size) : (Lib.bytesWorld w 5 x).cell? ⟨w.heap.size, j, none⟩ = some (.int .u8 ((x[j]).toNat : Int)) := by
  rw [Lib.bytesWorld_cell w 5 x j hj]
  have := at_list x j hj
  rw [List.getD, this]
  rfl
theorem bw_free (w : World) (x : ByteArray) (j : Nat) (hj : j < x.size) : (Lib.bytesWorld w 5 x).frozen? ⟨w.heap.size, j, none⟩ = false := by
  have h := Lib.bytesWorld_at_new w 5 x
  have hs : x.size ≤ (Lib.bytesCells w 5 x).size := by
    unfold Lib.bytesCells
    rw [Array.size_append, Array.size_map]
    exact Nat.le_add_right _ _
  simp only [World.frozen?, h]
  simp
  omega
theorem str_at (l : List UInt8) (i : Nat) (_h : i < l.length) (h' : i < (str l).size) : (str l)[i] = l[i] := rfl
theorem bw_set (w : World) (x : ByteArray) (j : Nat) (hj : j < x.size) (v : UInt8) : Lib.Bytes ((Lib.bytesWorld w 5 x).setCell ⟨w.heap.size, j, none⟩ (.int .u8 (v.toNat : Int))) w.heap.size 0 (str (x.data.toList.set j v)) := fun i hi => by
  have hi' : i < x.size := by rw [str_size, List.length_set, list_size] at hi; exact hi
  rw [Nat.zero_add]
  by_cases q : i = j
  · subst q
    have hl : i < (x.data.toList.set i v).length := by rw [List.length_set, list_size]; exact hi'
    have e : (str (x.data.toList.set i v))[i] = v := (str_at _ i hl hi).trans (List.getElem_set_self hl)
    exact (csame (bw_cell w x i hi')).trans (congrArg (fun u : UInt8 => some (Value.int .u8 ((u.toNat : Nat) : Int))) e.symm)
  · have hl : i < (x.data.toList.set j v).length := by rw [List.length_set, list_size]; exact hi'
    have e : (str (x.data.toList.set j v))[i] = x[i] := (str_at _ i hl hi).trans (List.getElem_set_ne (Ne.symm q) hl)
    exact (cset (bw_cell w x i hi') (.inr q)).trans (congrArg (fun u : UInt8 => some (Value.int .u8 ((u.toNat : Nat) : Int))) e.symm)

set_option maxHeartbeats 4000000 in
theorem turned_none (s : ByteArray) (a c : Nat) (w : World) (h : 3000 < s.size ∨ c = 0) (hm : s.size ≤ maxLen) (hT : Tb w) :
    Calls Tryd.prog 5 #[.string s, .int .u16 (a : Int), .int .u8 (c : Int)] w fun e w' => e = .returned (.bool true) ∧ Below w.heap.size w w' := by
  have HA := Lib.hid (awake_any w hT)
  unfold maxLen at hm
  clear hT
  by_cases h1 : 3000 < s.size
  · clear h
    go_enter Tryd.func5, Tryd.ntmps5
    go_wp2_with fail
    refine HA.out.mono ?_
    rintro e w1 ⟨rfl, hb1⟩
    have H1 := Lib.hid hb1
    clear hb1
    go_wp2
    go_ret
    exact ⟨rfl, H1.out⟩
  · obtain rfl : c = 0 := h.resolve_left h1
    clear h
    go_enter Tryd.func5, Tryd.ntmps5
    go_wp2_with fail
    refine HA.out.mono ?_
    rintro e w1 ⟨rfl, hb1⟩
    have H1 := Lib.hid hb1
    clear hb1
    go_wp2
    go_ret
    exact ⟨rfl, H1.out⟩

set_option maxHeartbeats 8000000 in
theorem turned_some (s : ByteArray) (a c : Nat) (w : World) (hs : s.size ≤ 3000) (ha : a < 65536) (hc : c < 256) (hc0 : c ≠ 0) (hT : Tb w) :
    Calls Tryd.prog 5 #[.string s, .int .u16 (a : Int), .int .u8 (c : Int)] w fun e w' => e = .returned (.bool true) ∧ Below w.heap.size w w' := by
  have HA := Lib.hid (awake_any w hT)
  have HT := Lib.hid hT
  clear hT
  obtain ⟨n, hn⟩ : ∃ n, n = nb s.size := ⟨_, rfl⟩
  have hn0 : 0 < n := by rw [hn]; exact nb_pos _
  have hn7 : n ≤ 100 := by rw [hn]; unfold nb; omega
  have HL : Hid (∀ (W : World), Tb W → Calls Tryd.prog 8 #[.string s, .bool true] W fun e w' => e = .returned (.tuple #[.slice (some ⟨W.heap.size, 0, none⟩) n n, .int .i64 0]) ∧ Has w' W.heap.size 9 (rowA (layX s.data.toList true)) ∧ Below W.heap.size W w') := fun W q => by
    have := lay_any s true W (by omega) q
    rwa [← hn] at this
  obtain ⟨xs, hxs⟩ : ∃ xs, xs = layX s.data.toList true := ⟨_, rfl⟩
  have hlen : xs.length = n := by rw [hxs, lay_len, list_size, hn]
  -- which byte
  obtain ⟨k, hk⟩ : ∃ k, k = a % (64 * n) := ⟨_, rfl⟩
  have hk6 : k < 64 * n := by rw [hk]; exact Nat.mod_lt _ (by omega)
  have ek : (a : Int) % (64 * (n : Int)) = (k : Int) := by rw [hk, Int.natCast_emod, Int.natCast_mul]; rfl
  obtain ⟨i, hi⟩ : ∃ i, i = k / 64 := ⟨_, rfl⟩
  obtain ⟨j, hj⟩ : ∃ j, j = k % 64 := ⟨_, rfl⟩
  have ei : (k : Int) / 64 = (i : Int) := by omega
  have ej : (k : Int) % 64 = (j : Int) := by omega
  have hi6 : i < n := by omega
  have hj6 : j < 64 := by omega
  have hix : i < xs.length := by omega
  obtain ⟨x, hx⟩ : ∃ x, x = xs[i] := ⟨_, rfl⟩
  have hall := layL_all s.data.toList true
  have hrl : rows xs = layL s.data.toList true := by rw [hxs, rows_lay]
  have hil : i < (layL s.data.toList true).length := by rw [layL_len, list_size, ← hn]; exact hi6
  have hxl : x.data.toList = (layL s.data.toList true)[i] := by
    rw [hx]
    have := congrArg (fun m => m[i]?) hrl
    simp only [rows, List.getElem?_map, List.getElem?_eq_getElem hix, List.getElem?_eq_getElem hil, Option.map_some] at this
    exact Option.some.inj this
  have sx : x.size = 64 := by rw [← list_size, hxl]; exact hall _ (List.getElem_mem hil)
  have hjx : j < x.size := by omega
  obtain ⟨d, hd⟩ : ∃ d : Nat, d = (x[j]).toNat := ⟨_, rfl⟩
  have hd6 : d < 256 := by rw [hd]; exact UInt8.toNat_lt _
  have ed : (((x[j]).toNat : Nat) : Int) = (d : Int) := by rw [hd]
  have hvl : d ^^^ c < 256 := Nat.xor_lt_two_pow (n := 8) hd6 hc
  obtain ⟨v, hv⟩ : ∃ v : UInt8, v = UInt8.ofNat (d ^^^ c) := ⟨_, rfl⟩
  have hvn : v.toNat = d ^^^ c := by rw [hv, UInt8.toNat_ofNat']; omega
  have ev : bits .xor .u8 (d : Int) (c : Int) = (v.toNat : Int) := by rw [u8_xor_nat d c hd6 hc, hvn]
  have hvx : v ≠ x[j] := by
    intro e
    rw [e, ← hd] at hvn
    apply hc0
    have : d ^^^ 0 = d ^^^ c := by rw [Nat.xor_zero]; exact hvn
    exact (xor_left this).symm
  -- what is joined
  obtain ⟨Y, hY⟩ : ∃ Y, Y = str (x.data.toList.set j v) := ⟨_, rfl⟩
  have hrows : rows (xs.set i Y) = (layL s.data.toList true).set i (((layL s.data.toList true)[i]).set j v) := by
    unfold rows at hrl ⊢
    rw [List.map_set, hrl, hY, str_list, hxl]
  have hjoin : joinA (rows (xs.set i Y)) = joinF ((wholeL s.data.toList true).set k v) (nb s.data.toList.length) := by
    have hne : (layL s.data.toList true).set i (((layL s.data.toList true)[i]).set j v) ≠ [] := by
      intro e
      have := congrArg List.length e
      rw [List.length_set, layL_len, list_size, ← hn] at this
      simp at this
      omega
    rw [hrows, joinA_F (all_set hall i j hil v) hne, flat_set hall i j hil hj6, layL_flat, List.length_set, layL_len, show 64 * i + j = k by omega]
  have hkw : k < (wholeL s.data.toList true).length := by rw [whole_len, list_size, ← hn]; exact hk6
  have hvk : v ≠ (wholeL s.data.toList true)[k] := by
    have e : (wholeL s.data.toList true)[k]? = some x[j] := by
      have a1 := hall.at i hil
      rw [layL_flat] at a1
      have a2 := at_list x j hjx
      rw [hxl, a1] at a2
      unfold blkL at a2
      rw [List.getElem?_take, if_pos hj6, List.getElem?_drop, show 64 * i + j = k by omega] at a2
      exact a2
    rw [List.getElem?_eq_getElem hkw] at e
    rw [Option.some.inj e]
    exact hvx
  have hF := turned_F (l := s.data.toList) (by rw [list_size]; omega) hkw hvk
  rw [← hjoin] at hF
  have HJ : Hid (∀ (W : World) (b : Nat), Strs W b 0 (xs.set i Y) → Tb W → Calls Tryd.prog 10 #[.slice (some ⟨b, 0, none⟩) n n] W fun e w' => e = .returned (joinV (joinA (rows (xs.set i Y)))) ∧ Below W.heap.size W w') := fun W b q r => by
    have := join_any b 0 n (xs.set i Y) W q (by rw [List.length_set]; omega) (by rw [List.length_set]; omega) r
    rwa [List.length_set, hlen] at this
  obtain ⟨⟨A, E⟩, hAE⟩ : ∃ p, p = joinA (rows (xs.set i Y)) := ⟨_, rfl⟩
  rw [← hAE] at HJ hF
  have HF := Lib.hid hF
  have hcv : ∀ W : World, (convert 9 39 (.string x)).run Tryd.prog W = .ok (.slice (some ⟨W.heap.size, 0, none⟩) x.size (grownCap W x.size 0 5)) (Lib.bytesWorld W 5 x) := fun W => Lib.run_convert_string_bytes W 9 39 5 x Tryd.underlying9 Tryd.underlying39 Tryd.underlying5
  have h0c : ((c : Int) == 0) = false := by simp; omega
  have HX := Lib.hid (And.intro hxs (And.intro hx hY))
  have SX := Lib.hid sx
  rw [← hxs] at HL
  clear hn hxs hk hi hj hx hall hrl hil hxl sx hd hv hvn hvx hY hrows hjoin hkw hvk hF hAE hc0
  go_enter Tryd.func5, Tryd.ntmps5
  go_wp2_with fail
  refine HA.out.mono ?_
  rintro e w1 ⟨rfl, hb1⟩
  have B1 := Lib.hid hb1
  clear hb1
  go_wp2_with fail
  refine (HL.out w1 (HT.out.up B1.out)).mono ?_
  rintro e w2 ⟨rfl, hh2, hb2⟩
  obtain ⟨b1, hb1e⟩ : ∃ b1, b1 = w1.heap.size := ⟨_, rfl⟩
  rw [← hb1e]
  rw [← hb1e] at hh2
  have B2 := Lib.hid (up2 B1.out hb2)
  have H2 := Lib.hid hh2
  have hb1w : w.heap.size ≤ b1 := by rw [hb1e]; exact B1.out.size
  have hb12 : b1 < w2.heap.size := hh2.lt
  have cx : w2.cell? ⟨b1, i, none⟩ = some (.string x) := by
    have := hh2.strs.at hix
    rw [Nat.zero_add] at this
    rw [this, HX.out.2.1]
  clear hb2 hh2 hb1e
  have cB := bw_cell w2 x j hjx
  rw [ed] at cB
  have fB := bw_free w2 x j hjx
  have cb1 : (Lib.bytesWorld w2 5 x).cell? ⟨b1, i, none⟩ = some (.string x) := by rw [Lib.bytesWorld_old w2 5 x ⟨b1, i, none⟩ hb12]; exact cx
  have fb1 : (Lib.bytesWorld w2 5 x).frozen? ⟨b1, i, none⟩ = false := (H2.out.up (bw_below w2 x)).free i
  have hcv2 : (convert 39 9 (.slice (some ⟨w2.heap.size, 0, none⟩) x.size (grownCap w2 x.size 0 5))).run Tryd.prog ((Lib.bytesWorld w2 5 x).setCell ⟨w2.heap.size, j, none⟩ (.int .u8 (v.toNat : Int))) = .ok (.string Y) ((Lib.bytesWorld w2 5 x).setCell ⟨w2.heap.size, j, none⟩ (.int .u8 (v.toNat : Int))) := by
    have := Lib.run_convert_whole (P := Tryd.prog) _ 39 5 9 Tryd.underlying39 Tryd.underlying5 Tryd.underlying9 w2.heap.size 0 _ (bw_set w2 x j hjx v) (grownCap w2 x.size 0 5)
    rw [← HX.out.2.2, show Y.size = x.size by rw [HX.out.2.2, str_size, List.length_set, list_size]] at this
    exact this
  have HW : Hid (Below w.heap.size w (((Lib.bytesWorld w2 5 x).setCell ⟨w2.heap.size, j, none⟩ (.int .u8 (v.toNat : Int))).setCell ⟨b1, i, none⟩ (.string Y)) ∧ Has (((Lib.bytesWorld w2 5 x).setCell ⟨w2.heap.size, j, none⟩ (.int .u8 (v.toNat : Int))).setCell ⟨b1, i, none⟩ (.string Y)) b1 9 (rowA (xs.set i Y))) := by
    refine ⟨((up2 B2.out (bw_below w2 x)).setCell B2.out.size _).setCell hb1w _, ?_⟩
    exact ((H2.out.up (bw_below w2 x)).off (p := ⟨w2.heap.size, j, none⟩) (by show b1 ≠ w2.heap.size; omega) _).puts i Y
  have hne : b1 ≠ w2.heap.size := by omega
  have hne2 : w2.heap.size ≠ b1 := by omega
  have hb2s : w2.heap.size < (Lib.bytesWorld w2 5 x).heap.size := by rw [Lib.bytesWorld_size]; omega
  have hjz : j < x.size := hjx
  go_wp2_with fail
  obtain ⟨W5, hW5⟩ : ∃ W5, W5 = ((Lib.bytesWorld w2 5 x).setCell ⟨w2.heap.size, j, none⟩ (.int .u8 (v.toNat : Int))).setCell ⟨b1, i, none⟩ (.string Y) := ⟨_, rfl⟩
  rw [← hW5] at HW
  rw [← hW5]
  clear hW5 cB fB cb1 fb1 hcv hcv2 hne hne2 hb2s cx ev ed
  refine (HJ.out W5 b1 HW.out.2.strs (HT.out.up HW.out.1)).mono ?_
  rintro e w6 ⟨rfl, hb6⟩
  have B6 := Lib.hid (up2 HW.out.1 hb6)
  clear hb6
  by_cases h3 : 3 ≤ k
  · have e1 : joinV (A, E) = .tuple #[.string ⟨#[]⟩, .int .i64 8] := by rw [HF.out.1 h3]; rfl
    rw [e1]
    have h3' : 3 ≤ (a : Int) % (64 * (n : Int)) := by rw [ek]; omega
    clear e1
    go_wp2
    go_ret
    exact ⟨rfl, B6.out⟩
  · have h3' : (a : Int) % (64 * (n : Int)) < 3 := by rw [ek]; omega
    rcases HF.out.2 (by omega) with ⟨q1, q2⟩ | ⟨q0, q1, q2⟩
    · have e1 : joinV (A, E) = .tuple #[.string ⟨#[]⟩, .int .i64 (E : Int)] := by rw [show A = [] from q1]; rfl
      rw [e1]
      have hE : ((E : Int) != 0) = true := by have q : E ≠ 0 := q2; simp; omega
      clear e1 q1 q2 HF
      go_wp2
      go_ret
      exact ⟨rfl, B6.out⟩
    · have e1 : joinV (A, E) = .tuple #[.string (str A), .int .i64 0] := by rw [show E = 0 from q1]; rfl
      rw [e1]
      obtain ⟨T, hT⟩ : ∃ T, T = str A := ⟨_, rfl⟩
      rw [← hT]
      have hTs : (T.toList != s.toList) = true := by
        rw [Lib.toList_data, Lib.toList_data, hT, str_list]
        simpa using q2
      have hk0 : 0 < (a : Int) % (64 * (n : Int)) := by rw [ek]; omega
      clear e1 hT q0 q1 q2 HF
      go_wp2
      · have hz : T.toList = [] := by assumption
        rw [hz] at hTs
        have hz2 : (!s.toList.isEmpty) = true := by
          cases q : s.toList with
          | nil => rw [q] at hTs; simp at hTs
          | cons b r => rfl
        go_ret
        refine ⟨?_, B6.out⟩
        show Ending.returned (Value.bool (!s.toList.isEmpty)) = _
        rw [hz2]
      · go_ret
        refine ⟨?_, B6.out⟩
        show Ending.returned (Value.bool (!(T.toList == s.toList))) = _
        rw [show (!(T.toList == s.toList)) = true from hTs]
theorem turned_any (s : ByteArray) (a c : Int) (w : World) (hm : s.size ≤ maxLen) (ha : 0 ≤ a ∧ a < 65536) (hc : 0 ≤ c ∧ c < 256) (hT : Tb w) :
    Calls Tryd.prog 5 #[.string s, .int .u16 a, .int .u8 c] w fun e w' => e = .returned (.bool true) ∧ Below w.heap.size w w' := by
  obtain ⟨a, rfl⟩ := Int.eq_ofNat_of_zero_le ha.1
  obtain ⟨c, rfl⟩ := Int.eq_ofNat_of_zero_le hc.1
  by_cases h : 3000 < s.size ∨ c = 0
  · exact turned_none s a c w h hm hT
  · exact turned_some s a c w (by omega) (by omega) (by omega) (by omega) hT
end Go.Proofs.YtmbnofhieminkaaDoor
