/-
  No cell of these rows narrows 'for every input' (looked for: loops, veiled, ifaces, maps, wideKeys, modest, calm, conditions, laid).
  DERIVED. THE GIVEN ROWS OF THIS SEAT. 4 by the template 'for every input the law returns true; each argument reads behind the call as it read before'; 0 by the template 'total and deterministic' (their statements: YtobdcogaphkogaaTotals.lean).
  GIVEN WITH THE SEED: the statements are not yours to turn. If you find one false, say at which input.
  Laid BY PROGRAM, IN A SANDBOX (cutbox-rows.mjs): the forced cells as the released guide's own fill.sh prints them over the translation 81202d7417f4ea2e… (all of the seat's roots in one cut). By AI agents, Wed Nov 11 2026. No macro, syntax, notation, axiom, sorry.
-/
import Derived.Test.YtobdcogaphkogaaChecked
import GoSem.Claim
import GoSem.ClaimJoined
import GoSem.ClaimMapViews
import Derived.JoinedTies
import Derived.KernelRfl
namespace Go.Proofs.Ytobdcogaphkogaa
/- THE CELL 'sum', in the pinned program and in every row, IS THE sha256 OF THE DUMP (.gsa) THAT YtobdcogaphkogaaProg.lean LOADS. Nothing in Lean hashes anything: it is a label: what it is worth is what the hold of that sum in a sandbox is worth. -/
noncomputable def Try.pinned : Pinned := { name := "ytobdcogaphkogaa", sum := "81202d7417f4ea2e9eaf404dd3ac22a01f41074607b90f082f62956ae30030aa", checked := Try.checked }
namespace Rows
def none {H : Type} : Left H := { results := [], args := [] }

/-- 'quitrentlaw15.TrackDoes': WHATEVER THE INPUT: true; the input reads as it did. -/
def trackDoesSpec : ChangeSpec := { name := "trackDoes", fn := fun _ => fun
  | [d1, d2, d3, d4] => { results := [.lit (.bool true)], args := [d1, d2, d3, d4] }
  | _ => none }
def trackDoesRow : OpenClaim := { program := "ytobdcogaphkogaa", sum := "81202d7417f4ea2e9eaf404dd3ac22a01f41074607b90f082f62956ae30030aa", func := "quitrent/quitrentlaw15.TrackDoes", spec := "trackDoes", inPlace := ["math/bits.Add64", "math/bits.Sub64"], recurses := true, apart := false }
def TrackDoesSaid : Prop := trackDoesRow.holds Try.pinned (OpenSpec.ofChange trackDoesSpec)

/-- ITS FALSE NEIGHBOUR: 'it returns false'. Refute it at one input. -/
def trackDoesWrong : ChangeSpec := { name := "trackDoes", fn := fun _ => fun
  | [d1, d2, d3, d4] => { results := [.lit (.bool false)], args := [d1, d2, d3, d4] }
  | _ => none }
def TrackDoesWrongFalsely : Prop := trackDoesRow.holds Try.pinned (OpenSpec.ofChange trackDoesWrong)

/-- 'quitrentlaw15.TrackWithin': WHATEVER THE INPUT: true; the input reads as it did. -/
def trackWithinSpec : ChangeSpec := { name := "trackWithin", fn := fun _ => fun
  | [d1, d2, d3, d4, d5] => { results := [.lit (.bool true)], args := [d1, d2, d3, d4, d5] }
  | _ => none }
def trackWithinRow : OpenClaim := { program := "ytobdcogaphkogaa", sum := "81202d7417f4ea2e9eaf404dd3ac22a01f41074607b90f082f62956ae30030aa", func := "quitrent/quitrentlaw15.TrackWithin", spec := "trackWithin", inPlace := ["math/bits.Add64", "math/bits.Sub64"], apart := false }
def TrackWithinSaid : Prop := trackWithinRow.holds Try.pinned (OpenSpec.ofChange trackWithinSpec)

/-- ITS FALSE NEIGHBOUR: 'it returns false'. Refute it at one input. -/
def trackWithinWrong : ChangeSpec := { name := "trackWithin", fn := fun _ => fun
  | [d1, d2, d3, d4, d5] => { results := [.lit (.bool false)], args := [d1, d2, d3, d4, d5] }
  | _ => none }
def TrackWithinWrongFalsely : Prop := trackWithinRow.holds Try.pinned (OpenSpec.ofChange trackWithinWrong)

/-- 'quitrentlaw15.TrackOnward': WHATEVER THE INPUT: true; the input reads as it did. -/
def trackOnwardSpec : ChangeSpec := { name := "trackOnward", fn := fun _ => fun
  | [d1, d2, d3, d4, d5, d6] => { results := [.lit (.bool true)], args := [d1, d2, d3, d4, d5, d6] }
  | _ => none }
def trackOnwardRow : OpenClaim := { program := "ytobdcogaphkogaa", sum := "81202d7417f4ea2e9eaf404dd3ac22a01f41074607b90f082f62956ae30030aa", func := "quitrent/quitrentlaw15.TrackOnward", spec := "trackOnward", inPlace := ["math/bits.Add64", "math/bits.Sub64"], apart := false }
def TrackOnwardSaid : Prop := trackOnwardRow.holds Try.pinned (OpenSpec.ofChange trackOnwardSpec)

/-- ITS FALSE NEIGHBOUR: 'it returns false'. Refute it at one input. -/
def trackOnwardWrong : ChangeSpec := { name := "trackOnward", fn := fun _ => fun
  | [d1, d2, d3, d4, d5, d6] => { results := [.lit (.bool false)], args := [d1, d2, d3, d4, d5, d6] }
  | _ => none }
def TrackOnwardWrongFalsely : Prop := trackOnwardRow.holds Try.pinned (OpenSpec.ofChange trackOnwardWrong)

/-- 'quitrentlaw15.TrackAfresh': WHATEVER THE INPUT: true; the input reads as it did. -/
def trackAfreshSpec : ChangeSpec := { name := "trackAfresh", fn := fun _ => fun
  | [d1, d2, d3, d4, d5, d6] => { results := [.lit (.bool true)], args := [d1, d2, d3, d4, d5, d6] }
  | _ => none }
def trackAfreshRow : OpenClaim := { program := "ytobdcogaphkogaa", sum := "81202d7417f4ea2e9eaf404dd3ac22a01f41074607b90f082f62956ae30030aa", func := "quitrent/quitrentlaw15.TrackAfresh", spec := "trackAfresh", inPlace := ["math/bits.Add64", "math/bits.Sub64"], apart := false }
def TrackAfreshSaid : Prop := trackAfreshRow.holds Try.pinned (OpenSpec.ofChange trackAfreshSpec)

/-- ITS FALSE NEIGHBOUR: 'it returns false'. Refute it at one input. -/
def trackAfreshWrong : ChangeSpec := { name := "trackAfresh", fn := fun _ => fun
  | [d1, d2, d3, d4, d5, d6] => { results := [.lit (.bool false)], args := [d1, d2, d3, d4, d5, d6] }
  | _ => none }
def TrackAfreshWrongFalsely : Prop := trackAfreshRow.holds Try.pinned (OpenSpec.ofChange trackAfreshWrong)

/- THE SECOND FORM. 'bulk': how many values and letters a reading holds, each counted each time it is reached (what is shared counts as often as it is met; a slice's spare places count too). A statement '..UptoSaid' is the law's where the arguments, and the package variables that the reading takes, are together of bulk at most 1048576: NARROWER than '..Said'. Prove '..Said' where nothing that the law and all that it calls make is longer than what came in: it says more and counts as full. Else prove '..UptoSaid'. A law counts once. -/
mutual
def uptoBulk {H : Type} : DataW H → Nat
  | .lit (.string bytes) => bytes.length + 1
  | .lit _ => 1
  | .nil => 1
  | .ptr d => uptoBulk d + 1
  | .slice elems spare => uptoBulkAll elems + uptoBulkAll spare + 1
  | .agg parts => uptoBulkAll parts + 1
  | .iface _ d => uptoBulk d + 1
  | .map entries => uptoBulkEntries entries + 1
  | .held _ => 1
def uptoBulkAll {H : Type} : List (DataW H) → Nat
  | [] => 0
  | d :: r => uptoBulk d + uptoBulkAll r
def uptoBulkEntries {H : Type} : List (Lit × DataW H) → Nat
  | [] => 0
  | x :: r => uptoBulkEntry x + uptoBulkEntries r
def uptoBulkEntry {H : Type} : Lit × DataW H → Nat
  | (.string bytes, d) => bytes.length + uptoBulk d + 1
  | (_, d) => uptoBulk d + 1
 end
def uptoSmall : (H : Type) → List (DataW H) → Bool := fun _ ds => decide (uptoBulkAll ds ≤ 1048576)
def OpenSpec.upto (s : _root_.Go.ChangeSpec) : _root_.Go.OpenSpec := { _root_.Go.OpenSpec.ofChange s with cond := some uptoSmall }

/-- 'quitrentlaw15.TrackDoes', WHERE WHAT IT READS IS OF BULK AT MOST 1048576: true; the input reads as it did. -/
def trackDoesUptoRow : OpenClaim := { program := "ytobdcogaphkogaa", sum := "81202d7417f4ea2e9eaf404dd3ac22a01f41074607b90f082f62956ae30030aa", func := "quitrent/quitrentlaw15.TrackDoes", spec := "trackDoes", inPlace := ["math/bits.Add64", "math/bits.Sub64"], recurses := true, apart := false, narrowed := true }
def TrackDoesUptoSaid : Prop := trackDoesUptoRow.holds Try.pinned (OpenSpec.upto trackDoesSpec)

/-- 'quitrentlaw15.TrackWithin', WHERE WHAT IT READS IS OF BULK AT MOST 1048576: true; the input reads as it did. -/
def trackWithinUptoRow : OpenClaim := { program := "ytobdcogaphkogaa", sum := "81202d7417f4ea2e9eaf404dd3ac22a01f41074607b90f082f62956ae30030aa", func := "quitrent/quitrentlaw15.TrackWithin", spec := "trackWithin", inPlace := ["math/bits.Add64", "math/bits.Sub64"], apart := false, narrowed := true }
def TrackWithinUptoSaid : Prop := trackWithinUptoRow.holds Try.pinned (OpenSpec.upto trackWithinSpec)

/-- 'quitrentlaw15.TrackOnward', WHERE WHAT IT READS IS OF BULK AT MOST 1048576: true; the input reads as it did. -/
def trackOnwardUptoRow : OpenClaim := { program := "ytobdcogaphkogaa", sum := "81202d7417f4ea2e9eaf404dd3ac22a01f41074607b90f082f62956ae30030aa", func := "quitrent/quitrentlaw15.TrackOnward", spec := "trackOnward", inPlace := ["math/bits.Add64", "math/bits.Sub64"], apart := false, narrowed := true }
def TrackOnwardUptoSaid : Prop := trackOnwardUptoRow.holds Try.pinned (OpenSpec.upto trackOnwardSpec)

/-- 'quitrentlaw15.TrackAfresh', WHERE WHAT IT READS IS OF BULK AT MOST 1048576: true; the input reads as it did. -/
def trackAfreshUptoRow : OpenClaim := { program := "ytobdcogaphkogaa", sum := "81202d7417f4ea2e9eaf404dd3ac22a01f41074607b90f082f62956ae30030aa", func := "quitrent/quitrentlaw15.TrackAfresh", spec := "trackAfresh", inPlace := ["math/bits.Add64", "math/bits.Sub64"], apart := false, narrowed := true }
def TrackAfreshUptoSaid : Prop := trackAfreshUptoRow.holds Try.pinned (OpenSpec.upto trackAfreshSpec)

end Rows
end Go.Proofs.Ytobdcogaphkogaa
