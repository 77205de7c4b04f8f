/- The reference's New. -/
import Derived.Test.YtjffcgimdffkoaaGreatDoorQs
namespace Go.Proofs.YtjffcgimdffkoaaGreatDoor
open Go.RowKit

section
variable {P : Program} {ops : Array Oper} {o : Oper} {a : Act} {w : World} {K : Act → World → Prop} {Q : Exit → Act → World → Prop} {E : Prop}
/-- a call in a region, by its contract -/
theorem step_told (hgd : o.guard = none) (f : FuncId) (vs : Array Value) (hr : (execOp a.eval o).run P w = .ok (.enter f vs) w)
    {v : Value} {S : World → Prop} (hc : Calls P f vs w fun e w' => e = .returned v ∧ S w') (h : ∀ w', S w' → K (a.put o.dst v) w') :
    if Region.wanted o (yielded ops a.tmps) = true then Oper.wp P o a w K Q else E := by
  have hw : Region.wanted o (yielded ops a.tmps) = true := by simp [Region.wanted, hgd]
  rw [if_pos hw]
  unfold Oper.wp
  rw [hr]
  show Calls P f vs w _
  refine hc.mono ?_
  rintro e w' ⟨rfl, hs⟩
  exact h w' hs
/-- an append to a row of the call's own, in a region -/
theorem step_own (hgd : o.guard = none) (s x : Operand) (t : TypeId) (ho : o.op = .call { callee := .builtin .append, args := #[s, x], argTypes := #[t, t] })
    (base : Nat) (e : TypeId) (i : TypeInfo) (z : Value) (size bytes : Nat) (ht : P.underlying t = some (.slice e)) (hi : P.info? e = some i) (hz : i.zero = some z)
    (hsize : i.size = size) (hby : i.bytes = bytes) (hzs : z.cells.size = size) (hsz : 0 < size)
    (v : Value) (n : Nat) (xs : List Value) (hs : a.eval s = v) (hown : w.ownsRow base e size v n xs)
    (ad : Addr) (m c : Nat) (news : List Value) (hx : a.eval x = .slice (some ad) m c) (hl : news.length = m * size) (hnews : ∀ j u, news[j]? = some u → w.cell? (ad.add j) = some u) (h1 : ∀ u ∈ news, u.oneCell' = true)
    (h63 : n + m ≤ maxLen) (hbytes : (n + m) * bytes ≤ 140737488355328) (hbase : base ≤ w.heap.size)
    (h : ∀ v' w', w'.ownsRow base e size v' (n + m) (xs ++ news) → w.grownBy w' v.ownBlock → K (a.put o.dst v') w') :
    if Region.wanted o (yielded ops a.tmps) = true then Oper.wp P o a w K Q else E := by
  have hw : Region.wanted o (yielded ops a.tmps) = true := by simp [Region.wanted, hgd]
  rw [if_pos hw]
  exact wp_append_own w s x t ho base e i z size bytes ht hi hz hsize hby hzs hsz v n xs hs hown ad m c news hx hl hnews h1 h63 hbytes hbase fun v' w' h2 h3 _ => h v' w' h2 h3
end

theorem news_one (w : World) (x : Value) (t : Nat) : ∀ j u, [x][j]? = some u → (w.alloc (.cells #[x] t)).cell? ((⟨w.heap.size, 0, none⟩ : Addr).add j) = some u := by
  intro j u h
  cases j with
  | zero =>
    have e : x = u := by simpa using h
    subst e
    exact (Has.fresh w t #[x]).cell 0
  | succ j => simp at h
theorem own_slice {w : World} {base e size n : Nat} {v : Value} {xs : List Value} (h : w.ownsRow base e size v n xs) : ∃ A c, v = .slice A n c := by
  rcases h.2 with ⟨rfl, rfl⟩ | ⟨g, cap, _, rfl, _⟩
  · exact ⟨_, _, rfl⟩
  · exact ⟨_, _, rfl⟩
theorem zero9 : (Tryz.prog.info? 9).map (fun i => (i.zero, i.size, i.bytes)) = some (some (.string ByteArray.empty), 1, 16) := by kernel_rfl
theorem rnew_no (w : World) (n : Int) (q : n < 3 ∨ 4096 < n) :
    Calls Tryz.prog 7 #[.int .i64 n] w fun e w' => e = .returned (.tuple #[.pointer none, .int .i64 1]) ∧ w = w' := by
  rcases q with q | q
  · go_enter Tryz.func7, Tryz.ntmps7
    go_wp2
    go_ret2
    exact ⟨rfl, rfl⟩
  · have q' : ¬ n < 3 := by omega
    go_enter Tryz.func7, Tryz.ntmps7
    go_wp2
    go_ret2
    exact ⟨rfl, rfl⟩

/-- behind k rounds -/
structure Grows (w : World) (k : Nat) (v : Value) (wr : World) : Prop where
  head : Has wr w.heap.size 58 #[v, .int .i64 (-1), .int .i64 0, .bool false, .int .i64 0]
  own : wr.ownsRow (w.heap.size + 1) 9 1 v k (List.replicate k (.string (zs 64)))
  bel : Below w.heap.size w wr
theorem grown_of {W w1 : World} (h : Below W.heap.size W w1) (row : Option Nat) : W.grownBy w1 row := ⟨h.os, h.tape, h.output, h.size, fun k hk _ => h.block k hk⟩
theorem Grows.up {w wr w' : World} {k : Nat} {v : Value} (h : Grows w k v wr) (hb : Below wr.heap.size wr w') : Grows w k v w' :=
  ⟨h.head.up hb, h.own.kept (grown_of hb none) (by cases v.ownBlock <;> simp), up2 h.bel hb⟩
theorem Grows.drew {w wr : World} {k : Nat} {v : Value} (h : Grows w k v wr) : Grows w k v wr.drew := ⟨h.head, h.own, h.bel.drew⟩
theorem Grows.lt {w wr : World} {k : Nat} {v : Value} (h : Grows w k v wr) : w.heap.size < wr.heap.size := h.head.lt
theorem Grows.app {w wr w' : World} {k : Nat} {v v' : Value} (h : Grows w k v wr) (own : w'.ownsRow (w.heap.size + 1) 9 1 v' (k + 1) (List.replicate k (.string (zs 64)) ++ [.string (zs 64)])) (g : wr.grownBy w' v.ownBlock) :
    Has w' w.heap.size 58 #[v, .int .i64 (-1), .int .i64 0, .bool false, .int .i64 0] ∧ Grows w (k + 1) v' (w'.setCell ⟨w.heap.size, 0, none⟩ v') := by
  have hh : Has w' w.heap.size 58 #[v, .int .i64 (-1), .int .i64 0, .bool false, .int .i64 0] :=
    (g.block _ h.lt (fun e => by have := (h.own.lt _ e.symm).1; omega)).trans h.head
  refine ⟨hh, hh.put 0 v', ?_, ?_⟩
  · rw [List.replicate_succ']
    exact ownsRow_setCell_below own (by simp) _
  · refine (h.bel.grown g (by have := h.lt; omega) (fun k hk => by have := (h.own.lt _ hk).1; omega)).setCell (by simp) _
theorem Grows.appn {w w1 w' : World} {k : Nat} {v v' : Value} {o : Obj} (h : Grows w k v w1) (own : w'.ownsRow (w.heap.size + 1) 9 1 v' (k + 1) (List.replicate k (.string (zs 64)) ++ [.string (zs 64)])) (g : (w1.alloc o).grownBy w' v.ownBlock) :
    Has w' w.heap.size 58 #[v, .int .i64 (-1), .int .i64 0, .bool false, .int .i64 0] ∧ Grows w (k + 1) v' (w'.setCell ⟨w.heap.size, 0, none⟩ v') :=
  (h.up (boxed w1 o)).app own g

set_option maxRecDepth 100000 in
set_option maxHeartbeats 2000000 in
theorem rnew_yes (w : World) (n : Nat) (h0 : 3 ≤ n) (h1 : n ≤ 4096) :
    Calls Tryz.prog 7 #[.int .i64 (n : Int)] w fun e w' => ∃ v, e = .returned (.tuple #[.pointer (some ⟨w.heap.size, 0, none⟩), .int .i64 0]) ∧ Grows w n v w' := by
  obtain ⟨i0, hi, hz0, hz1, hz2⟩ := info_parts zero9
  have HI := Lib.hid hi
  have HZ0 := Lib.hid hz0
  have HZ1 := Lib.hid hz1
  have HZ2 := Lib.hid hz2
  clear hi hz0 hz1 hz2
  go_enter Tryz.func7, Tryz.ntmps7
  go_wp2_with fail
  go_loopw [5] (fun i wr => ∃ k : Nat, k ≤ n ∧ i = .int .i64 (k : Int) ∧ ∃ v, Grows w k v wr) (fun i _ => n - (intOf i).toNat)
  case atStart => exact ⟨0, by omega, rfl, .slice none 0 0, Has.fresh w 58 _, World.ownsRow_nil _ _ _ _, boxed _ _⟩
  case round =>
    obtain ⟨k, hk, rfl, v, hG⟩ := hrel
    have HG := Lib.hid hG
    clear hG
    by_cases hlt : k < n
    · go_wp2_with fail
      have c0 : wr.cell? ⟨w.heap.size, 0, none⟩ = some v := HG.out.head.cell 0
      have z0 := HG.out.lt
      go_region_law (first
        | (refine step_told rfl 26 #[] (by go_simp) (zeros_any _) ?_; intro w1 hb; have G1 := Lib.hid (HG.out.drew.up hb); have c1 : w1.cell? ⟨w.heap.size, 0, none⟩ = some v := G1.out.head.cell 0; have z1 := G1.out.lt; clear hb)
        | (refine step_own rfl (.tmp 23) (.tmp 25) 49 rfl (w.heap.size + 1) 9 i0 (.string ByteArray.empty) 1 16 Tryz.underlying49 HI.out HZ0.out HZ1.out HZ2.out rfl (by decide) v k _ rfl (G1.out.own.alloc _) ⟨w1.heap.size, 0, none⟩ 1 1 [.string (zs 64)] rfl rfl (news_one w1 _ 9) (by simp [Value.oneCell']) (by unfold maxLen; omega) (by omega) (by simp; omega) ?_; intro v2 w2 own2 g2; obtain ⟨A2, p2, rfl⟩ := own_slice own2; obtain ⟨h2, G2⟩ := G1.out.appn own2 g2; have c2 : w2.cell? ⟨w.heap.size, 0, none⟩ = some v := h2.cell 0; have f2 := h2.free 0; have HG2 := Lib.hid G2; clear own2 g2 h2 G2))
      all_goals
        clear c0
        go_wp2_with fail
        go_roundw
        case rel => exact ⟨k + 1, by omega, by go_num, _, HG2.out⟩
        case measure => simp [intOf]; omega
    · obtain rfl : k = n := by omega
      go_wp2_with fail
      go_ret2
      exact ⟨v, rfl, HG.out⟩

def RNewAt (w : World) (n : Nat) (e : Ending) (w' : World) : Prop :=
  ∃ q r, e = .returned (.tuple #[.pointer (some ⟨q, 0, none⟩), .int .i64 0]) ∧ Rt w' q r (newS n) ∧ w.heap.size ≤ q ∧ w.heap.size ≤ r ∧ Below w.heap.size w w'
theorem rnew_at (w : World) (n : Int) (h0 : 3 ≤ n) (h1 : n ≤ 4096) : Calls Tryz.prog 7 #[.int .i64 n] w (RNewAt w n.toNat) := by
  obtain ⟨k, rfl⟩ : ∃ k : Nat, n = (k : Int) := ⟨n.toNat, by omega⟩
  rw [Int.toNat_natCast]
  refine (rnew_yes w k (by omega) (by omega)).mono ?_
  rintro e w' ⟨v, rfl, hh, ho, hb⟩
  rcases ho.2 with ⟨_, h⟩ | ⟨g, cap, cur, rfl, hg, hc, hle, _, _, ht⟩
  · omega
  · refine ⟨_, g, rfl, ⟨⟨cap - k, 0, by unfold heads2; rw [show (newS k).n + (cap - k) = cap from Nat.add_sub_cancel' hle]; exact hh, by simp [newS]⟩, cur, hc, fun i hi => ?_⟩, Nat.le_refl _, by omega, hb⟩
    have hi' : i < k := hi
    have e1 : (cur.toList.take (k * 1))[i]? = some (.string (zs 64)) := by
      rw [ht, List.getElem?_replicate]
      simp [hi']
    rw [List.getElem?_take_of_lt (by omega), Array.getElem?_toList] at e1
    exact e1
end Go.Proofs.YtjffcgimdffkoaaGreatDoor
