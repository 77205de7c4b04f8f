/-
  No cell of these rows narrows 'for every input' (looked for: loops, veiled, ifaces, maps, wideKeys, modest, calm, conditions, laid).
  DERIVED. THE GIVEN ROWS OF THIS SEAT. 4 by the template 'for every input the law returns true; each argument reads behind the call as it read before'; 0 by the template 'total and deterministic' (their statements: YtbcdfkcgcaifjaaTotals.lean).
  GIVEN WITH THE SEED: the statements are not yours to turn. If you find one false, say at which input.
  Laid BY PROGRAM, IN A SANDBOX (cutbox-rows.mjs): the forced cells as the released guide's own fill.sh prints them over the translation 7a167620f8e62176… (all of the seat's roots in one cut). By AI agents, Wed Nov 11 2026. No macro, syntax, notation, axiom, sorry.
-/
import Derived.Test.YtbcdfkcgcaifjaaChecked
import GoSem.Claim
import GoSem.ClaimJoined
import GoSem.ClaimMapViews
import Derived.JoinedTies
import Derived.KernelRfl
namespace Go.Proofs.Ytbcdfkcgcaifjaa
/- THE CELL 'sum', in the pinned program and in every row, IS THE sha256 OF THE DUMP (.gsa) THAT YtbcdfkcgcaifjaaProg.lean LOADS. Nothing in Lean hashes anything: it is a label: what it is worth is what the hold of that sum in a sandbox is worth. -/
noncomputable def Try.pinned : Pinned := { name := "ytbcdfkcgcaifjaa", sum := "7a167620f8e621767c159c246b651b27071f58482896d920b05a2a7207bf16c0", checked := Try.checked }
namespace Rows
def none {H : Type} : Left H := { results := [], args := [] }

/-- 'quitrentlaw13.AllotTells': WHATEVER THE INPUT: true; the input reads as it did. -/
def allotTellsSpec : ChangeSpec := { name := "allotTells", fn := fun _ => fun
  | [d1, d2, d3, d4] => { results := [.lit (.bool true)], args := [d1, d2, d3, d4] }
  | _ => none }
def allotTellsRow : OpenClaim := { program := "ytbcdfkcgcaifjaa", sum := "7a167620f8e621767c159c246b651b27071f58482896d920b05a2a7207bf16c0", func := "quitrent/quitrentlaw13.AllotTells", spec := "allotTells", inPlace := ["math/bits.Add64", "math/bits.Sub64"], unfollowed := true, recurses := true, apart := false }
def AllotTellsSaid : Prop := allotTellsRow.holds Try.pinned (OpenSpec.ofChange allotTellsSpec)

/-- ITS FALSE NEIGHBOUR: 'it returns false'. Refute it at one input. -/
def allotTellsWrong : ChangeSpec := { name := "allotTells", fn := fun _ => fun
  | [d1, d2, d3, d4] => { results := [.lit (.bool false)], args := [d1, d2, d3, d4] }
  | _ => none }
def AllotTellsWrongFalsely : Prop := allotTellsRow.holds Try.pinned (OpenSpec.ofChange allotTellsWrong)

/-- 'quitrentlaw13.AllotWhole': WHATEVER THE INPUT: true; the input reads as it did. -/
def allotWholeSpec : ChangeSpec := { name := "allotWhole", fn := fun _ => fun
  | [d1, d2, d3, d4] => { results := [.lit (.bool true)], args := [d1, d2, d3, d4] }
  | _ => none }
def allotWholeRow : OpenClaim := { program := "ytbcdfkcgcaifjaa", sum := "7a167620f8e621767c159c246b651b27071f58482896d920b05a2a7207bf16c0", func := "quitrent/quitrentlaw13.AllotWhole", spec := "allotWhole", inPlace := ["math/bits.Add64", "math/bits.Sub64"], unfollowed := true, recurses := true, apart := false }
def AllotWholeSaid : Prop := allotWholeRow.holds Try.pinned (OpenSpec.ofChange allotWholeSpec)

/-- ITS FALSE NEIGHBOUR: 'it returns false'. Refute it at one input. -/
def allotWholeWrong : ChangeSpec := { name := "allotWhole", fn := fun _ => fun
  | [d1, d2, d3, d4] => { results := [.lit (.bool false)], args := [d1, d2, d3, d4] }
  | _ => none }
def AllotWholeWrongFalsely : Prop := allotWholeRow.holds Try.pinned (OpenSpec.ofChange allotWholeWrong)

/-- 'quitrentlaw13.AllotNone': WHATEVER THE INPUT: true; the input reads as it did. -/
def allotNoneSpec : ChangeSpec := { name := "allotNone", fn := fun _ => fun
  | [d1, d2, d3] => { results := [.lit (.bool true)], args := [d1, d2, d3] }
  | _ => none }
def allotNoneRow : OpenClaim := { program := "ytbcdfkcgcaifjaa", sum := "7a167620f8e621767c159c246b651b27071f58482896d920b05a2a7207bf16c0", func := "quitrent/quitrentlaw13.AllotNone", spec := "allotNone", inPlace := ["math/bits.Add64", "math/bits.Sub64"], unfollowed := true, recurses := true, apart := false }
def AllotNoneSaid : Prop := allotNoneRow.holds Try.pinned (OpenSpec.ofChange allotNoneSpec)

/-- ITS FALSE NEIGHBOUR: 'it returns false'. Refute it at one input. -/
def allotNoneWrong : ChangeSpec := { name := "allotNone", fn := fun _ => fun
  | [d1, d2, d3] => { results := [.lit (.bool false)], args := [d1, d2, d3] }
  | _ => none }
def AllotNoneWrongFalsely : Prop := allotNoneRow.holds Try.pinned (OpenSpec.ofChange allotNoneWrong)

/-- 'quitrentlaw13.AllotAgain': WHATEVER THE INPUT: true; the input reads as it did. -/
def allotAgainSpec : ChangeSpec := { name := "allotAgain", fn := fun _ => fun
  | [d1, d2, d3] => { results := [.lit (.bool true)], args := [d1, d2, d3] }
  | _ => none }
def allotAgainRow : OpenClaim := { program := "ytbcdfkcgcaifjaa", sum := "7a167620f8e621767c159c246b651b27071f58482896d920b05a2a7207bf16c0", func := "quitrent/quitrentlaw13.AllotAgain", spec := "allotAgain", inPlace := ["math/bits.Add64", "math/bits.Sub64"], unfollowed := true, recurses := true, apart := false }
def AllotAgainSaid : Prop := allotAgainRow.holds Try.pinned (OpenSpec.ofChange allotAgainSpec)

/-- ITS FALSE NEIGHBOUR: 'it returns false'. Refute it at one input. -/
def allotAgainWrong : ChangeSpec := { name := "allotAgain", fn := fun _ => fun
  | [d1, d2, d3] => { results := [.lit (.bool false)], args := [d1, d2, d3] }
  | _ => none }
def AllotAgainWrongFalsely : Prop := allotAgainRow.holds Try.pinned (OpenSpec.ofChange allotAgainWrong)

/- THE SECOND FORM. 'bulk': how many values and letters a reading holds, each counted each time it is reached (what is shared counts as often as it is met; a slice's spare places count too). A statement '..UptoSaid' is the law's where the arguments, and the package variables that the reading takes, are together of bulk at most 1048576: NARROWER than '..Said'. Prove '..Said' where nothing that the law and all that it calls make is longer than what came in: it says more and counts as full. Else prove '..UptoSaid'. A law counts once. -/
mutual
def uptoBulk {H : Type} : DataW H → Nat
  | .lit (.string bytes) => bytes.length + 1
  | .lit _ => 1
  | .nil => 1
  | .ptr d => uptoBulk d + 1
  | .slice elems spare => uptoBulkAll elems + uptoBulkAll spare + 1
  | .agg parts => uptoBulkAll parts + 1
  | .iface _ d => uptoBulk d + 1
  | .map entries => uptoBulkEntries entries + 1
  | .held _ => 1
def uptoBulkAll {H : Type} : List (DataW H) → Nat
  | [] => 0
  | d :: r => uptoBulk d + uptoBulkAll r
def uptoBulkEntries {H : Type} : List (Lit × DataW H) → Nat
  | [] => 0
  | x :: r => uptoBulkEntry x + uptoBulkEntries r
def uptoBulkEntry {H : Type} : Lit × DataW H → Nat
  | (.string bytes, d) => bytes.length + uptoBulk d + 1
  | (_, d) => uptoBulk d + 1
 end
def uptoSmall : (H : Type) → List (DataW H) → Bool := fun _ ds => decide (uptoBulkAll ds ≤ 1048576)
def OpenSpec.upto (s : _root_.Go.ChangeSpec) : _root_.Go.OpenSpec := { _root_.Go.OpenSpec.ofChange s with cond := some uptoSmall }

/-- 'quitrentlaw13.AllotTells', WHERE WHAT IT READS IS OF BULK AT MOST 1048576: true; the input reads as it did. -/
def allotTellsUptoRow : OpenClaim := { program := "ytbcdfkcgcaifjaa", sum := "7a167620f8e621767c159c246b651b27071f58482896d920b05a2a7207bf16c0", func := "quitrent/quitrentlaw13.AllotTells", spec := "allotTells", inPlace := ["math/bits.Add64", "math/bits.Sub64"], unfollowed := true, recurses := true, apart := false, narrowed := true }
def AllotTellsUptoSaid : Prop := allotTellsUptoRow.holds Try.pinned (OpenSpec.upto allotTellsSpec)

/-- 'quitrentlaw13.AllotWhole', WHERE WHAT IT READS IS OF BULK AT MOST 1048576: true; the input reads as it did. -/
def allotWholeUptoRow : OpenClaim := { program := "ytbcdfkcgcaifjaa", sum := "7a167620f8e621767c159c246b651b27071f58482896d920b05a2a7207bf16c0", func := "quitrent/quitrentlaw13.AllotWhole", spec := "allotWhole", inPlace := ["math/bits.Add64", "math/bits.Sub64"], unfollowed := true, recurses := true, apart := false, narrowed := true }
def AllotWholeUptoSaid : Prop := allotWholeUptoRow.holds Try.pinned (OpenSpec.upto allotWholeSpec)

/-- 'quitrentlaw13.AllotNone', WHERE WHAT IT READS IS OF BULK AT MOST 1048576: true; the input reads as it did. -/
def allotNoneUptoRow : OpenClaim := { program := "ytbcdfkcgcaifjaa", sum := "7a167620f8e621767c159c246b651b27071f58482896d920b05a2a7207bf16c0", func := "quitrent/quitrentlaw13.AllotNone", spec := "allotNone", inPlace := ["math/bits.Add64", "math/bits.Sub64"], unfollowed := true, recurses := true, apart := false, narrowed := true }
def AllotNoneUptoSaid : Prop := allotNoneUptoRow.holds Try.pinned (OpenSpec.upto allotNoneSpec)

/-- 'quitrentlaw13.AllotAgain', WHERE WHAT IT READS IS OF BULK AT MOST 1048576: true; the input reads as it did. -/
def allotAgainUptoRow : OpenClaim := { program := "ytbcdfkcgcaifjaa", sum := "7a167620f8e621767c159c246b651b27071f58482896d920b05a2a7207bf16c0", func := "quitrent/quitrentlaw13.AllotAgain", spec := "allotAgain", inPlace := ["math/bits.Add64", "math/bits.Sub64"], unfollowed := true, recurses := true, apart := false, narrowed := true }
def AllotAgainUptoSaid : Prop := allotAgainUptoRow.holds Try.pinned (OpenSpec.upto allotAgainSpec)

end Rows
end Go.Proofs.Ytbcdfkcgcaifjaa
