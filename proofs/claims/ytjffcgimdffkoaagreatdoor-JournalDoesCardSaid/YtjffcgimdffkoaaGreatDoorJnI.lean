/- A journal in memory; lay. -/
import Derived.Laws.AppendOwn
import Derived.Laws.AppendOwnNone
import Derived.Test.YtjffcgimdffkoaaGreatDoorJnG
namespace Go.Proofs.YtjffcgimdffkoaaGreatDoor
open Go.RowKit

/-- of the blocks that were there only those of F may have turned -/
structure Turn (F : Nat → Prop) (w w' : World) : Prop where
  os : w'.os = w.os
  tape : w'.tape = w.tape
  output : w'.output = w.output
  size : w.heap.size ≤ w'.heap.size
  block : ∀ k, k < w.heap.size → ¬ F k → w'.heap[k]? = w.heap[k]?
theorem Turn.refl (F : Nat → Prop) (w : World) : Turn F w w := ⟨rfl, rfl, rfl, Nat.le_refl _, fun _ _ _ => rfl⟩
theorem Turn.trans {F : Nat → Prop} {u v w : World} (h : Turn F u v) (k : Turn F v w) : Turn F u w :=
  ⟨k.os.trans h.os, k.tape.trans h.tape, k.output.trans h.output, Nat.le_trans h.size k.size, fun i hi q => (k.block i (Nat.lt_of_lt_of_le hi h.size) q).trans (h.block i hi q)⟩
theorem Turn.of {w w' : World} (F : Nat → Prop) (h : Below w.heap.size w w') : Turn F w w' := ⟨h.os, h.tape, h.output, h.size, fun k hk _ => h.block k hk⟩
theorem But.turn {F : Nat → Prop} {p b : Nat} {w w' : World} (h : But p b w w') (hp : F p) (hb : F b) : Turn F w w' :=
  ⟨h.os, h.tape, h.output, h.size, fun k hk q => h.block k hk (fun e => q (e ▸ hp)) (fun e => q (e ▸ hb))⟩
theorem Turn.put {F : Nat → Prop} {w w' : World} (h : Turn F w w') {a : Addr} (q : F a.block) (v : Value) : Turn F w (w'.setCell a v) :=
  ⟨h.os, h.tape, h.output, by simpa [World.setCell] using h.size, fun k hk r => (heap_setCell_other w' a k v (fun e => r (e ▸ q))).trans (h.block k hk r)⟩
theorem Turn.mono {F F' : Nat → Prop} {w w' : World} (h : Turn F w w') (q : ∀ k, k < w.heap.size → F k → F' k) : Turn F' w w' := ⟨h.os, h.tape, h.output, h.size, fun k hk r => h.block k hk (fun e => r (q k hk e))⟩
theorem Turn.has {F : Nat → Prop} {w w' : World} {g t : Nat} {cs : Array Value} (h : Turn F w w') (q : Has w g t cs) (hp : ¬ F g) : Has w' g t cs := (h.block g q.lt hp).trans q
theorem Turn.below {F : Nat → Prop} {B : Nat} {w w' : World} (h : Turn F w w') (hB : B ≤ w.heap.size) (hF : ∀ k, F k → B ≤ k) : Below B w w' :=
  ⟨h.os, h.tape, h.output, h.size, fun k hk => h.block k (by omega) (fun e => by have := hF k e; omega)⟩

/-- a journal's cells -/
def jcs (p h n u : Nat) (t : ByteArray) (v : Value) (br : Bool) : Array Value := #[.pointer (some ⟨p, 0, none⟩), .int .i64 (h : Int), .int .i64 (n : Int), .int .i64 (u : Int), .string t, v, .bool br]

set_option maxRecDepth 100000 in
set_option maxHeartbeats 4000000 in
theorem lay_down (w : World) (J p h n u p' h' n' : Nat) (a : Nat) (t x : ByteArray) (v more : Value) (hJ : Has w J 66 (jcs p h n u t v true)) :
    Calls Tryz.prog 35 #[.pointer (some ⟨J, 0, none⟩), .agg (hv p' h' n'), .int .i64 (a : Int), .string x, more] w fun e w' => e = .returned (.int .i64 9) ∧ Below w.heap.size w w' := by
  have hz := hJ.lt
  have c6 : w.cell? ⟨J, 6, none⟩ = some (.bool true) := hJ.cell 6
  clear hJ
  unfold hv
  go_enter Tryz.func35, Tryz.ntmps35
  go_wp2
  go_ret
  exact ⟨rfl, boxed _ _⟩
set_option maxRecDepth 100000 in
set_option maxHeartbeats 4000000 in
theorem lay_full_any (w : World) (J p h n u p' h' n' : Nat) (a : Nat) (t x : ByteArray) (v more : Value) (hJ : Has w J 66 (jcs p h n u t v false)) (hx : x.size ≤ maxLen) (ha : a ≤ 5000) (hn : n' ≤ 4096) (hf : 40000 < x.size ∨ n' < a + nb x.size) (hT : Tb w) :
    Calls Tryz.prog 35 #[.pointer (some ⟨J, 0, none⟩), .agg (hv p' h' n'), .int .i64 (a : Int), .string x, more] w fun e w' => e = .returned (.int .i64 4) ∧ Below w.heap.size w w' := by
  have hz := hJ.lt
  have c6 : w.cell? ⟨J, 6, none⟩ = some (.bool false) := hJ.cell 6
  have HC : Hid (∀ W : World, Below w.heap.size w W → Calls Tryz.prog 50 #[.agg #[.pointer (some ⟨p', 0, none⟩), .int .i64 (h' : Int), .int .i64 (n' : Int)], .int .i64 (a : Int), .string x] W fun e w' => e = .returned (.tuple #[.slice none 0 0, .int .i64 4]) ∧ Below W.heap.size W w') := fun W hb => by
    by_cases h4 : 40000 < x.size
    · exact laying_great W p' h' n' a x hx h4
    · exact laying_room W p' h' n' a x (by omega) ha hn (by omega) (hT.up hb)
  clear hJ hx hf hT
  unfold hv
  go_enter Tryz.func35, Tryz.ntmps35
  go_wp2_with fail
  refine (HC.out _ (boxed _ _)).mono ?_
  rintro e w1 ⟨rfl, hb1⟩
  have hB := Lib.hid (lots (boxed w (.cells #[.pointer (some ⟨p', 0, none⟩), .int .i64 (h' : Int), .int .i64 (n' : Int)] 60)) hb1)
  clear hb1
  go_wp2
  go_ret
  exact ⟨rfl, hB.out⟩
end Go.Proofs.YtjffcgimdffkoaaGreatDoor

namespace Go.Proofs.YtjffcgimdffkoaaGreatDoor
open Go.RowKit

/-- the writes of the four steps -/
def ls4 (B : Nat → ByteArray) (q n a : Nat) (l : List UInt8) : List (List (Nat × ByteArray)) :=
  [endW B (1 + q + (a + nb l.length)) (1 + q + n), bodyW (1 + q + (a + 1)) ((layX l true).drop 1), [(1 + q + a, first l false)], [(1 + q + a, first l true)]]
theorem ls4_flat (B : Nat → ByteArray) (q n a : Nat) (l : List UInt8) : (ls4 B q n a l).flatten = layW B l (1 + q + a) (1 + q + n) := by
  unfold ls4 layW endW
  rw [show 1 + q + (a + nb l.length) = 1 + q + a + nb l.length by omega, show 1 + q + (a + 1) = 1 + q + a + 1 by omega]
  simp [List.append_assoc]
theorem call1 (U : Array Value) (W : World) : (callFunc 58 U).run Tryz.prog W = .ok (.enter 58 U) W := by
  simp [callFunc, go_sem, Tryz.func58, Tryz.f58]
theorem call2 (U : Array Value) (W : World) : (callFunc 60 U).run Tryz.prog W = .ok (.enter 60 U) W := by
  simp [callFunc, go_sem, Tryz.func60, Tryz.f60]
theorem call3 (U : Array Value) (W : World) : (callFunc 62 U).run Tryz.prog W = .ok (.enter 62 U) W := by
  simp [callFunc, go_sem, Tryz.func62, Tryz.f62]
theorem call4 (U : Array Value) (W : World) : (callFunc 63 U).run Tryz.prog W = .ok (.enter 63 U) W := by
  simp [callFunc, go_sem, Tryz.func63, Tryz.f63]
theorem call5 (U : Array Value) (W : World) : (callFunc 39 U).run Tryz.prog W = .ok (.enter 39 U) W := by
  simp [callFunc, go_sem, Tryz.func39, Tryz.f39]

/-- what the four steps need of a half and of what is laid -/
structure Room4 (s : SS) (h n a : Nat) (l : List UInt8) : Prop where
  hh : h ≤ 1
  hn : n ≤ 4096
  ha : a + nb l.length ≤ n
  hf : 1 + h * n + n ≤ s.n
  hl : l.length ≤ 40000
theorem Room4.k {s : SS} {h n a : Nat} {l : List UInt8} (r : Room4 s h n a l) : nb l.length ≤ 626 ∧ 0 < nb l.length := by
  have := r.hl
  unfold nb; omega
theorem four_ok {s : SS} {p b h n a X F E I g C c : Nat} {l : List UInt8} (r : Room4 s h n a l) (K : World → Prop) (hK : ∀ W, K W → Cau W p h n a l X F E I g C c) :
    StepsOk p b s K (four X F E I C) (ls4 s.B (h * n) n a l) := by
  have hk := r.k
  have hr := r.ha
  have hn4 := r.hn
  intro i f ll hf hl W s' m hA hk2 h0 hn hm
  have hc := hK W hk2
  have hi : i < 4 := by
    by_cases q : i < 4
    · exact q
    · rw [List.getElem?_eq_none (by simp [four]; omega)] at hf; cases hf
  have hi4 : i = 0 ∨ i = 1 ∨ i = 2 ∨ i = 3 := by omega
  rcases hi4 with rfl | rfl | rfl | rfl
  · cases hf; cases hl
    have := h0 rfl
    subst this
    exact ⟨call1 _ _, lay1_any hc hA r.hh r.hn r.ha (by rw [hn]; exact r.hf) hm⟩
  · cases hf; cases hl
    exact ⟨call2 _ _, lay2_any hc hA r.hh r.hn (by omega) (by omega) hk.2 hm⟩
  · cases hf; cases hl
    exact ⟨call3 _ _, lay3_any hc hA r.hh r.hn (by omega) hk.2 hm⟩
  · cases hf; cases hl
    exact ⟨call4 _ _, lay4_any hc hA r.hh r.hn (by omega) hk.2 hm⟩

set_option maxRecDepth 100000 in
set_option maxHeartbeats 4000000 in
theorem snapC_any (w : World) (p b h n O : Nat) (s : SS) (m : Int) (hO : Has w O 60 (hv p h n)) (hA : At w p b s m) (hh : h ≤ 1) (hm : m ≤ 900000) :
    Calls Tryz.prog 39 #[.pointer (some ⟨O, 0, none⟩)] w fun e w' => e = .returned (.int .i64 (runW s [(0, mark0 h)]).2) ∧ At w' p b (runW s [(0, mark0 h)]).1 (m + 1000) ∧ But p b w w' := by
  have B3 := hO.box3
  unfold Box3 at B3
  obtain ⟨c0, c1, c2⟩ := B3
  have HC := Lib.hid (count_any w p b h n s m hA hh hm)
  clear hO hA
  go_enter Tryz.func39, Tryz.ntmps39
  go_wp2_with fail
  refine HC.out.mono ?_
  rintro e w1 ⟨rfl, g1, g2⟩
  have k1 := Lib.hid g1
  have k2 := Lib.hid g2
  clear g1 g2
  go_wp2
  go_ret
  exact ⟨rfl, k1.out.fine_more (by omega), k2.out⟩
theorem five_ok {s : SS} {p b h n a X F E I g C c O : Nat} {l : List UInt8} (r : Room4 s h n a l) (K : World → Prop) (hK : ∀ W, K W → Cau W p h n a l X F E I g C c ∧ Has W O 60 (hv p h n)) :
    StepsOk p b s K (four X F E I C ++ [(39, #[.pointer (some ⟨O, 0, none⟩)])]) (ls4 s.B (h * n) n a l ++ [[(0, mark0 h)]]) := by
  have r4 := four_ok (p := p) (b := b) r K (fun W k => (hK W k).1)
  intro i f ll hf hl W s' m hA hk2 h0 hn hm
  by_cases hi : i < 4
  · rw [List.getElem?_append_left (by simpa [four] using hi)] at hf
    rw [List.getElem?_append_left (by simpa [ls4] using hi)] at hl
    exact r4 i f ll hf hl W s' m hA hk2 h0 hn hm
  · have hi4 : i = 4 := by
      by_cases q : i < 5
      · omega
      · rw [List.getElem?_eq_none (by simp [four]; omega)] at hf; cases hf
    subst hi4
    cases hf; cases hl
    exact ⟨call5 _ _, snapC_any W p b h n O s' m (hK W hk2).2 hA r.hh hm⟩

/-- behind lay: the answer E, the store, the journal that is broken if E isn't 0 -/
def LayD (w : World) (J p b h n u : Nat) (t : ByteArray) (v : Value) (S : SS × Int) (m : Int) (e : Ending) (w' : World) : Prop :=
  e = .returned (.int .i64 S.2) ∧ At w' p b S.1 m ∧ Has w' J 66 (jcs p h n u t v (S.2 != 0)) ∧ Turn (fun k => k = J ∨ k = p ∨ k = b) w w'

theorem infoStep : (Tryz.prog.info? 101).map (fun i => (i.zero, i.size, i.bytes)) = some (some .nilFunc, 1, 8) := by kernel_rfl
theorem Has.own {w : World} {G B t : Nat} {cs : Array Value} (h : Has w G t cs) (hB : B ≤ G) (hs : cs.size ≤ maxLen) : w.ownsRow B t 1 (.slice (some ⟨G, 0, none⟩) cs.size cs.size) cs.size cs.toList :=
  ⟨by simp, .inr ⟨G, cs.size, cs, rfl, hB, h, Nat.le_refl _, hs, by simp, by rw [Nat.mul_one, ← Array.length_toList, List.take_length]⟩⟩
theorem But.lay {p b : Nat} {w w' : World} {J : Nat} (h : But p b w w') : Turn (fun k => k = J ∨ k = p ∨ k = b) w w' := h.turn (.inr (.inl rfl)) (.inr (.inr rfl))
set_option maxRecDepth 100000 in
set_option maxHeartbeats 4000000 in
theorem lay_do (w : World) (J p b h n u : Nat) (h' : Nat) (a : Nat) (t x : ByteArray) (v : Value) (s : SS) (m : Int) (hJ : Has w J 66 (jcs p h n u t v false)) (hA : At w p b s m) (hm : m ≤ 800000)
    (r : Room4 s h' n a x.data.toList) (hT : Tb w) :
    Calls Tryz.prog 35 #[.pointer (some ⟨J, 0, none⟩), .agg (hv p h' n), .int .i64 (a : Int), .string x, .slice none 0 0] w
      (LayD w J p b h n u t v (runW s (layW s.B x.data.toList (1 + h' * n + a) (1 + h' * n + n))) (m + 10000)) := by
  have hx : x.size ≤ 40000 := by have := r.hl; rwa [list_size] at this
  have hr : a + nb x.size ≤ n := by have := r.ha; rwa [list_size] at this
  have HC : Hid (∀ W : World, Below w.heap.size w W → Calls Tryz.prog 50 #[.agg #[.pointer (some ⟨p, 0, none⟩), .int .i64 (h' : Int), .int .i64 (n : Int)], .int .i64 (a : Int), .string x] W (Laid W p h' n a x)) := fun W hb =>
    laying_fine W p h' n a x hx r.hn hr (hT.up hb)
  have hzz := hJ.lt
  have c6 : w.cell? ⟨J, 6, none⟩ = some (.bool false) := hJ.cell 6
  have HJ := Lib.hid hJ
  have HA := Lib.hid hA
  have HR := Lib.hid r
  clear hJ hA r hT hx hr
  unfold hv
  go_enter Tryz.func35, Tryz.ntmps35
  go_wp2_with fail
  refine (HC.out _ (boxed _ _)).mono ?_
  rintro e w1 ⟨X, F, E, I, g, C, c, G, rfl, lG, hG, hc, hb1⟩
  have hB1 := Lib.hid (lots (boxed w (.cells #[.pointer (some ⟨p, 0, none⟩), .int .i64 (h' : Int), .int .i64 (n : Int)] 60)) hb1)
  have HG := Lib.hid hG
  have HCau := Lib.hid hc
  have A1 := Lib.hid (HA.out.up hB1.out)
  have J1 := Lib.hid (HJ.out.up hB1.out)
  clear lG hG hc hb1 HC
  go_wp2_with fail
  have HK : Hid (Calls Tryz.prog 51 #[.slice (some ⟨G, 0, none⟩) 4 4] w1 fun e w' => e = .returned (.int .i64 (runW s (ls4 s.B (h' * n) n a x.data.toList).flatten).2) ∧ At w' p b (runW s (ls4 s.B (h' * n) n a x.data.toList).flatten).1 (m + 10000) ∧ But p b w1 w') :=
    inOrder_any w1 p b G 4 s m (fun W => Cau W p h' n a x.data.toList X F E I g C c) (four X F E I C) (ls4 s.B (h' * n) n a x.data.toList) rfl (by simp [four]) A1.out hm HG.out.fns HCau.out
      (fun W W' s' m' q k bt => k.but q bt) (four_ok HR.out _ (fun W k => k))
  rw [ls4_flat] at HK
  refine HK.out.mono ?_
  rintro e w2 ⟨rfl, hA2, hb2⟩
  obtain ⟨S, hS⟩ : ∃ S, S = runW s (layW s.B x.data.toList (1 + h' * n + a) (1 + h' * n + n)) := ⟨_, rfl⟩
  rw [← hS] at hA2 ⊢
  have A2 := Lib.hid hA2
  have j2 := hb2.hasT A1.out J1.out (by decide) (by decide)
  have J2 := Lib.hid j2
  have T2 := Lib.hid ((Turn.of (fun k => k = J ∨ k = p ∨ k = b) hB1.out).trans hb2.lay)
  have d6 : w2.cell? ⟨J, 6, none⟩ = some (.bool false) := j2.cell 6
  have f6 := j2.free 6
  obtain ⟨E, hE⟩ : ∃ E, E = S.2 := ⟨_, rfl⟩
  rw [← hE]
  have HE := Lib.hid hE
  have HS := Lib.hid hS
  clear hA2 hb2 hS j2 c6 hE
  go_wp2
  go_ret
  have hp : Has (w2.setCell ⟨J, 6, none⟩ (.bool (E != 0))) J 66 (jcs p h n u t v (E != 0)) := J2.out.put 6 _
  have hn := A2.out.st.nbox J2.out (by decide) (by decide)
  rw [← HS.out]
  refine ⟨?_, ⟨A2.out.st.off hn.1 hn.2 _, A2.out.fine⟩, by rw [← HE.out]; exact hp, T2.out.put (.inl rfl) _⟩
  show Ending.returned (.int .i64 E) = _
  rw [HE.out]
end Go.Proofs.YtjffcgimdffkoaaGreatDoor
