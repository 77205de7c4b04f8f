/- A journal in memory; lay. -/
import Derived.Test.YtjffcgimdffkoaaDoorJnG
import Derived.Laws.AppendOwn
import Derived.Laws.AppendOwnNone
namespace Go.Proofs.YtjffcgimdffkoaaDoor
open Go.RowKit

/-- of the blocks that were there only those of F may have turned -/
structure Turn (F : Nat → Prop) (w w' : World) : Prop where
  os : w'.os = w.os
  tape : w'.tape = w.tape
  output : w'.output = w.output
  size : w.heap.size ≤ w'.heap.size
  block : ∀ k, k < w.heap.size → ¬ F k → w'.heap[k]? = w.heap[k]?
theorem Turn.refl (F : Nat → Prop) (w : World) : Turn F w w := ⟨rfl, rfl, rfl, Nat.le_refl _, fun _ _ _ => rfl⟩
theorem Turn.trans {F : Nat → Prop} {u v w : World} (h : Turn F u v) (k : Turn F v w) : Turn F u w :=
  ⟨k.os.trans h.os, k.tape.trans h.tape, k.output.trans h.output, Nat.le_trans h.size k.size, fun i hi q => (k.block i (Nat.lt_of_lt_of_le hi h.size) q).trans (h.block i hi q)⟩
theorem Turn.of {w w' : World} (F : Nat → Prop) (h : Below w.heap.size w w') : Turn F w w' := ⟨h.os, h.tape, h.output, h.size, fun k hk _ => h.block k hk⟩
theorem But.turn {F : Nat → Prop} {p b : Nat} {w w' : World} (h : But p b w w') (hp : F p) (hb : F b) : Turn F w w' :=
  ⟨h.os, h.tape, h.output, h.size, fun k hk q => h.block k hk (fun e => q (e ▸ hp)) (fun e => q (e ▸ hb))⟩
theorem Turn.put {F : Nat → Prop} {w w' : World} (h : Turn F w w') {a : Addr} (q : F a.block) (v : Value) : Turn F w (w'.setCell a v) :=
  ⟨h.os, h.tape, h.output, by simpa [World.setCell] using h.size, fun k hk r => (heap_setCell_other w' a k v (fun e => r (e ▸ q))).trans (h.block k hk r)⟩
theorem Turn.mono {F F' : Nat → Prop} {w w' : World} (h : Turn F w w') (q : ∀ k, k < w.heap.size → F k → F' k) : Turn F' w w' := ⟨h.os, h.tape, h.output, h.size, fun k hk r => h.block k hk (fun e => r (q k hk e))⟩
theorem Turn.has {F : Nat → Prop} {w w' : World} {g t : Nat} {cs : Array Value} (h : Turn F w w') (q : Has w g t cs) (hp : ¬ F g) : Has w' g t cs := (h.block g q.lt hp).trans q
theorem Turn.below {F : Nat → Prop} {B : Nat} {w w' : World} (h : Turn F w w') (hB : B ≤ w.heap.size) (hF : ∀ k, F k → B ≤ k) : Below B w w' :=
  ⟨h.os, h.tape, h.output, h.size, fun k hk => h.block k (by omega) (fun e => by have := hF k e; omega)⟩

/-- a journal's cells -/
def jcs (p h n u : Nat) (t : ByteArray) (v : Value) (br : Bool) : Array Value := #[.pointer (some ⟨p, 0, none⟩), .int .i64 (h : Int), .int .i64 (n : Int), .int .i64 (u : Int), .string t, v, .bool br]

set_option maxRecDepth 100000 in
set_option maxHeartbeats 4000000 in
theorem lay_down (w : World) (J p h n u p' h' n' : Nat) (a : Nat) (t x : ByteArray) (v more : Value) (hJ : Has w J 63 (jcs p h n u t v true)) :
    Calls Tryd.prog 24 #[.pointer (some ⟨J, 0, none⟩), .agg (hv p' h' n'), .int .i64 (a : Int), .string x, more] w fun e w' => e = .returned (.int .i64 9) ∧ Below w.heap.size w w' := by
  have hz := hJ.lt
  have c6 : w.cell? ⟨J, 6, none⟩ = some (.bool true) := hJ.cell 6
  clear hJ
  unfold hv
  go_enter Tryd.func24, Tryd.ntmps24
  go_wp2
  go_ret
  exact ⟨rfl, boxed _ _⟩
set_option maxRecDepth 100000 in
set_option maxHeartbeats 4000000 in
theorem lay_full_any (w : World) (J p h n u p' h' n' : Nat) (a : Nat) (t x : ByteArray) (v more : Value) (hJ : Has w J 63 (jcs p h n u t v false)) (hx : x.size ≤ maxLen) (ha : a ≤ 5000) (hn : n' ≤ 4096) (hf : 40000 < x.size ∨ n' < a + nb x.size) (hT : Tb w) :
    Calls Tryd.prog 24 #[.pointer (some ⟨J, 0, none⟩), .agg (hv p' h' n'), .int .i64 (a : Int), .string x, more] w fun e w' => e = .returned (.int .i64 4) ∧ Below w.heap.size w w' := by
  have hz := hJ.lt
  have c6 : w.cell? ⟨J, 6, none⟩ = some (.bool false) := hJ.cell 6
  have HC : Hid (∀ W : World, Below w.heap.size w W → Calls Tryd.prog 35 #[.agg #[.pointer (some ⟨p', 0, none⟩), .int .i64 (h' : Int), .int .i64 (n' : Int)], .int .i64 (a : Int), .string x] W fun e w' => e = .returned (.tuple #[.slice none 0 0, .int .i64 4]) ∧ Below W.heap.size W w') := fun W hb => by
    by_cases h4 : 40000 < x.size
    · exact laying_great W p' h' n' a x hx h4
    · exact laying_room W p' h' n' a x (by omega) ha hn (by omega) (hT.up hb)
  clear hJ hx hf hT
  unfold hv
  go_enter Tryd.func24, Tryd.ntmps24
  go_wp2_with fail
  refine (HC.out _ (boxed _ _)).mono ?_
  rintro e w1 ⟨rfl, hb1⟩
  have hB := Lib.hid (lots (boxed w (.cells #[.pointer (some ⟨p', 0, none⟩), .int .i64 (h' : Int), .int .i64 (n' : Int)] 57)) hb1)
  clear hb1
  go_wp2
  go_ret
  exact ⟨rfl, hB.out⟩
end Go.Proofs.YtjffcgimdffkoaaDoor
