/-
  No cell of these rows narrows 'for every input' (looked for: loops, veiled, ifaces, maps, wideKeys, modest, calm, conditions, laid).
  DERIVED. THE GIVEN ROWS OF THIS SEAT. 4 by the template 'for every input the law returns true; each argument reads behind the call as it read before'; 0 by the template 'total and deterministic' (their statements: YthogokflobnfpaaTotals.lean).
  GIVEN WITH THE SEED: the statements are not yours to turn. If you find one false, say at which input.
  Laid BY PROGRAM, IN A SANDBOX (cutbox-rows.mjs): the forced cells as the released guide's own fill.sh prints them over the translation 7ecfe3dfc19c81cc… (all of the seat's roots in one cut). By AI agents, Wed Nov 11 2026. No macro, syntax, notation, axiom, sorry.
-/
import Derived.Test.YthogokflobnfpaaChecked
import GoSem.Claim
import GoSem.ClaimJoined
import GoSem.ClaimMapViews
import Derived.JoinedTies
import Derived.KernelRfl
namespace Go.Proofs.Ythogokflobnfpaa
/- THE CELL 'sum', in the pinned program and in every row, IS THE sha256 OF THE DUMP (.gsa) THAT YthogokflobnfpaaProg.lean LOADS. Nothing in Lean hashes anything: it is a label: what it is worth is what the hold of that sum in a sandbox is worth. -/
noncomputable def Try.pinned : Pinned := { name := "ythogokflobnfpaa", sum := "7ecfe3dfc19c81cccc987bdf6c66874c3a2817ba94e361ed24e619a8a6d8f3ad", checked := Try.checked }
namespace Rows
def none {H : Type} : Left H := { results := [], args := [] }

/-- 'quitrentlaw12.ConsiderTells': WHATEVER THE INPUT: true; the input reads as it did. -/
def considerTellsSpec : ChangeSpec := { name := "considerTells", fn := fun _ => fun
  | [d1, d2, d3] => { results := [.lit (.bool true)], args := [d1, d2, d3] }
  | _ => none }
def considerTellsRow : OpenClaim := { program := "ythogokflobnfpaa", sum := "7ecfe3dfc19c81cccc987bdf6c66874c3a2817ba94e361ed24e619a8a6d8f3ad", func := "quitrent/quitrentlaw12.ConsiderTells", spec := "considerTells", inPlace := ["math/bits.Add64"], unfollowed := true, recurses := true, apart := false }
def ConsiderTellsSaid : Prop := considerTellsRow.holds Try.pinned (OpenSpec.ofChange considerTellsSpec)

/-- ITS FALSE NEIGHBOUR: 'it returns false'. Refute it at one input. -/
def considerTellsWrong : ChangeSpec := { name := "considerTells", fn := fun _ => fun
  | [d1, d2, d3] => { results := [.lit (.bool false)], args := [d1, d2, d3] }
  | _ => none }
def ConsiderTellsWrongFalsely : Prop := considerTellsRow.holds Try.pinned (OpenSpec.ofChange considerTellsWrong)

/-- 'quitrentlaw12.ConsiderBound': WHATEVER THE INPUT: true; the input reads as it did. -/
def considerBoundSpec : ChangeSpec := { name := "considerBound", fn := fun _ => fun
  | [d1, d2, d3, d4] => { results := [.lit (.bool true)], args := [d1, d2, d3, d4] }
  | _ => none }
def considerBoundRow : OpenClaim := { program := "ythogokflobnfpaa", sum := "7ecfe3dfc19c81cccc987bdf6c66874c3a2817ba94e361ed24e619a8a6d8f3ad", func := "quitrent/quitrentlaw12.ConsiderBound", spec := "considerBound", inPlace := ["math/bits.Add64"], unfollowed := true, recurses := true, apart := false }
def ConsiderBoundSaid : Prop := considerBoundRow.holds Try.pinned (OpenSpec.ofChange considerBoundSpec)

/-- ITS FALSE NEIGHBOUR: 'it returns false'. Refute it at one input. -/
def considerBoundWrong : ChangeSpec := { name := "considerBound", fn := fun _ => fun
  | [d1, d2, d3, d4] => { results := [.lit (.bool false)], args := [d1, d2, d3, d4] }
  | _ => none }
def ConsiderBoundWrongFalsely : Prop := considerBoundRow.holds Try.pinned (OpenSpec.ofChange considerBoundWrong)

/-- 'quitrentlaw12.ConsiderSure': WHATEVER THE INPUT: true; the input reads as it did. -/
def considerSureSpec : ChangeSpec := { name := "considerSure", fn := fun _ => fun
  | [d1, d2, d3] => { results := [.lit (.bool true)], args := [d1, d2, d3] }
  | _ => none }
def considerSureRow : OpenClaim := { program := "ythogokflobnfpaa", sum := "7ecfe3dfc19c81cccc987bdf6c66874c3a2817ba94e361ed24e619a8a6d8f3ad", func := "quitrent/quitrentlaw12.ConsiderSure", spec := "considerSure", inPlace := ["math/bits.Add64"], unfollowed := true, recurses := true, apart := false }
def ConsiderSureSaid : Prop := considerSureRow.holds Try.pinned (OpenSpec.ofChange considerSureSpec)

/-- ITS FALSE NEIGHBOUR: 'it returns false'. Refute it at one input. -/
def considerSureWrong : ChangeSpec := { name := "considerSure", fn := fun _ => fun
  | [d1, d2, d3] => { results := [.lit (.bool false)], args := [d1, d2, d3] }
  | _ => none }
def ConsiderSureWrongFalsely : Prop := considerSureRow.holds Try.pinned (OpenSpec.ofChange considerSureWrong)

/-- 'quitrentlaw12.ConsiderMean': WHATEVER THE INPUT: true; the input reads as it did. -/
def considerMeanSpec : ChangeSpec := { name := "considerMean", fn := fun _ => fun
  | [d1, d2] => { results := [.lit (.bool true)], args := [d1, d2] }
  | _ => none }
def considerMeanRow : OpenClaim := { program := "ythogokflobnfpaa", sum := "7ecfe3dfc19c81cccc987bdf6c66874c3a2817ba94e361ed24e619a8a6d8f3ad", func := "quitrent/quitrentlaw12.ConsiderMean", spec := "considerMean", inPlace := ["math/bits.Add64"], unfollowed := true, recurses := true, apart := false }
def ConsiderMeanSaid : Prop := considerMeanRow.holds Try.pinned (OpenSpec.ofChange considerMeanSpec)

/-- ITS FALSE NEIGHBOUR: 'it returns false'. Refute it at one input. -/
def considerMeanWrong : ChangeSpec := { name := "considerMean", fn := fun _ => fun
  | [d1, d2] => { results := [.lit (.bool false)], args := [d1, d2] }
  | _ => none }
def ConsiderMeanWrongFalsely : Prop := considerMeanRow.holds Try.pinned (OpenSpec.ofChange considerMeanWrong)

/- THE SECOND FORM. 'bulk': how many values and letters a reading holds, each counted each time it is reached (what is shared counts as often as it is met; a slice's spare places count too). A statement '..UptoSaid' is the law's where the arguments, and the package variables that the reading takes, are together of bulk at most 1048576: NARROWER than '..Said'. Prove '..Said' where nothing that the law and all that it calls make is longer than what came in: it says more and counts as full. Else prove '..UptoSaid'. A law counts once. -/
mutual
def uptoBulk {H : Type} : DataW H → Nat
  | .lit (.string bytes) => bytes.length + 1
  | .lit _ => 1
  | .nil => 1
  | .ptr d => uptoBulk d + 1
  | .slice elems spare => uptoBulkAll elems + uptoBulkAll spare + 1
  | .agg parts => uptoBulkAll parts + 1
  | .iface _ d => uptoBulk d + 1
  | .map entries => uptoBulkEntries entries + 1
  | .held _ => 1
def uptoBulkAll {H : Type} : List (DataW H) → Nat
  | [] => 0
  | d :: r => uptoBulk d + uptoBulkAll r
def uptoBulkEntries {H : Type} : List (Lit × DataW H) → Nat
  | [] => 0
  | x :: r => uptoBulkEntry x + uptoBulkEntries r
def uptoBulkEntry {H : Type} : Lit × DataW H → Nat
  | (.string bytes, d) => bytes.length + uptoBulk d + 1
  | (_, d) => uptoBulk d + 1
 end
def uptoSmall : (H : Type) → List (DataW H) → Bool := fun _ ds => decide (uptoBulkAll ds ≤ 1048576)
def OpenSpec.upto (s : _root_.Go.ChangeSpec) : _root_.Go.OpenSpec := { _root_.Go.OpenSpec.ofChange s with cond := some uptoSmall }

/-- 'quitrentlaw12.ConsiderTells', WHERE WHAT IT READS IS OF BULK AT MOST 1048576: true; the input reads as it did. -/
def considerTellsUptoRow : OpenClaim := { program := "ythogokflobnfpaa", sum := "7ecfe3dfc19c81cccc987bdf6c66874c3a2817ba94e361ed24e619a8a6d8f3ad", func := "quitrent/quitrentlaw12.ConsiderTells", spec := "considerTells", inPlace := ["math/bits.Add64"], unfollowed := true, recurses := true, apart := false, narrowed := true }
def ConsiderTellsUptoSaid : Prop := considerTellsUptoRow.holds Try.pinned (OpenSpec.upto considerTellsSpec)

/-- 'quitrentlaw12.ConsiderBound', WHERE WHAT IT READS IS OF BULK AT MOST 1048576: true; the input reads as it did. -/
def considerBoundUptoRow : OpenClaim := { program := "ythogokflobnfpaa", sum := "7ecfe3dfc19c81cccc987bdf6c66874c3a2817ba94e361ed24e619a8a6d8f3ad", func := "quitrent/quitrentlaw12.ConsiderBound", spec := "considerBound", inPlace := ["math/bits.Add64"], unfollowed := true, recurses := true, apart := false, narrowed := true }
def ConsiderBoundUptoSaid : Prop := considerBoundUptoRow.holds Try.pinned (OpenSpec.upto considerBoundSpec)

/-- 'quitrentlaw12.ConsiderSure', WHERE WHAT IT READS IS OF BULK AT MOST 1048576: true; the input reads as it did. -/
def considerSureUptoRow : OpenClaim := { program := "ythogokflobnfpaa", sum := "7ecfe3dfc19c81cccc987bdf6c66874c3a2817ba94e361ed24e619a8a6d8f3ad", func := "quitrent/quitrentlaw12.ConsiderSure", spec := "considerSure", inPlace := ["math/bits.Add64"], unfollowed := true, recurses := true, apart := false, narrowed := true }
def ConsiderSureUptoSaid : Prop := considerSureUptoRow.holds Try.pinned (OpenSpec.upto considerSureSpec)

/-- 'quitrentlaw12.ConsiderMean', WHERE WHAT IT READS IS OF BULK AT MOST 1048576: true; the input reads as it did. -/
def considerMeanUptoRow : OpenClaim := { program := "ythogokflobnfpaa", sum := "7ecfe3dfc19c81cccc987bdf6c66874c3a2817ba94e361ed24e619a8a6d8f3ad", func := "quitrent/quitrentlaw12.ConsiderMean", spec := "considerMean", inPlace := ["math/bits.Add64"], unfollowed := true, recurses := true, apart := false, narrowed := true }
def ConsiderMeanUptoSaid : Prop := considerMeanUptoRow.holds Try.pinned (OpenSpec.upto considerMeanSpec)

end Rows
end Go.Proofs.Ythogokflobnfpaa
