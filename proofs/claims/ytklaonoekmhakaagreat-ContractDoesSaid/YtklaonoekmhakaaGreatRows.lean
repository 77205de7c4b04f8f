/-
  No cell of these rows narrows 'for every input' (looked for: loops, veiled, ifaces, maps, wideKeys, modest, calm, conditions, laid).
  DERIVED. THE GIVEN ROWS OF THIS SEAT. 5 by the template 'for every input the law returns true; each argument reads behind the call as it read before'; 0 by the template 'total and deterministic' (their statements: YtklaonoekmhakaaGreatTotals.lean).
  GIVEN WITH THE SEED: the statements are not yours to turn. If you find one false, say at which input.
  Laid BY PROGRAM, IN A SANDBOX (cutbox-rows.mjs): the forced cells as the released guide's own fill.sh prints them over the translation 4649b41459046a06… (all of the seat's roots in one cut). By AI agents, Wed Nov 11 2026. No macro, syntax, notation, axiom, sorry.
-/
import Derived.Test.YtklaonoekmhakaaGreatChecked
import GoSem.Claim
import GoSem.ClaimJoined
import GoSem.ClaimMapViews
import Derived.JoinedTies
import Derived.KernelRfl
namespace Go.Proofs.YtklaonoekmhakaaGreat
/- THE CELL 'sum', in the pinned program and in every row, IS THE sha256 OF THE DUMP (.gsa) THAT YtklaonoekmhakaaGreatProg.lean LOADS. Nothing in Lean hashes anything: it is a label: what it is worth is what the hold of that sum in a sandbox is worth. -/
noncomputable def Tryz.pinned : Pinned := { name := "ytklaonoekmhakaagreat", sum := "4649b41459046a06c99a20a11a8fe87de6feae63075c4a7c402b94e0b1714a6e", checked := Tryz.checked }
namespace Rows
def none {H : Type} : Left H := { results := [], args := [] }

/-- 'quitrentlaw16.ContractDoes': WHATEVER THE INPUT: true; the input reads as it did. -/
def contractDoesSpec : ChangeSpec := { name := "contractDoes", fn := fun _ => fun
  | [d1, d2, d3] => { results := [.lit (.bool true)], args := [d1, d2, d3] }
  | _ => none }
def contractDoesRow : OpenClaim := { program := "ytklaonoekmhakaagreat", sum := "4649b41459046a06c99a20a11a8fe87de6feae63075c4a7c402b94e0b1714a6e", func := "quitrent/quitrentlaw16.ContractDoes", spec := "contractDoes", inPlace := ["math/bits.Add64", "math/bits.Sub64"], unfollowed := true, recurses := true, apart := false }
def ContractDoesSaid : Prop := contractDoesRow.holds Tryz.pinned (OpenSpec.ofChange contractDoesSpec)

/-- ITS FALSE NEIGHBOUR: 'it returns false'. Refute it at one input. -/
def contractDoesWrong : ChangeSpec := { name := "contractDoes", fn := fun _ => fun
  | [d1, d2, d3] => { results := [.lit (.bool false)], args := [d1, d2, d3] }
  | _ => none }
def ContractDoesWrongFalsely : Prop := contractDoesRow.holds Tryz.pinned (OpenSpec.ofChange contractDoesWrong)

/-- 'quitrentlaw16.ContractWhole': WHATEVER THE INPUT: true; the input reads as it did. -/
def contractWholeSpec : ChangeSpec := { name := "contractWhole", fn := fun _ => fun
  | [d1, d2, d3, d4] => { results := [.lit (.bool true)], args := [d1, d2, d3, d4] }
  | _ => none }
def contractWholeRow : OpenClaim := { program := "ytklaonoekmhakaagreat", sum := "4649b41459046a06c99a20a11a8fe87de6feae63075c4a7c402b94e0b1714a6e", func := "quitrent/quitrentlaw16.ContractWhole", spec := "contractWhole", inPlace := ["math/bits.Add64", "math/bits.Sub64"], unfollowed := true, recurses := true, apart := false }
def ContractWholeSaid : Prop := contractWholeRow.holds Tryz.pinned (OpenSpec.ofChange contractWholeSpec)

/-- ITS FALSE NEIGHBOUR: 'it returns false'. Refute it at one input. -/
def contractWholeWrong : ChangeSpec := { name := "contractWhole", fn := fun _ => fun
  | [d1, d2, d3, d4] => { results := [.lit (.bool false)], args := [d1, d2, d3, d4] }
  | _ => none }
def ContractWholeWrongFalsely : Prop := contractWholeRow.holds Tryz.pinned (OpenSpec.ofChange contractWholeWrong)

/-- 'quitrentlaw16.ContractEnds': WHATEVER THE INPUT: true; the input reads as it did. -/
def contractEndsSpec : ChangeSpec := { name := "contractEnds", fn := fun _ => fun
  | [d1, d2] => { results := [.lit (.bool true)], args := [d1, d2] }
  | _ => none }
def contractEndsRow : OpenClaim := { program := "ytklaonoekmhakaagreat", sum := "4649b41459046a06c99a20a11a8fe87de6feae63075c4a7c402b94e0b1714a6e", func := "quitrent/quitrentlaw16.ContractEnds", spec := "contractEnds", inPlace := ["math/bits.Add64", "math/bits.Sub64"], unfollowed := true, recurses := true, apart := false }
def ContractEndsSaid : Prop := contractEndsRow.holds Tryz.pinned (OpenSpec.ofChange contractEndsSpec)

/-- ITS FALSE NEIGHBOUR: 'it returns false'. Refute it at one input. -/
def contractEndsWrong : ChangeSpec := { name := "contractEnds", fn := fun _ => fun
  | [d1, d2] => { results := [.lit (.bool false)], args := [d1, d2] }
  | _ => none }
def ContractEndsWrongFalsely : Prop := contractEndsRow.holds Tryz.pinned (OpenSpec.ofChange contractEndsWrong)

/-- 'quitrentlaw16.ContractOnward': WHATEVER THE INPUT: true; the input reads as it did. -/
def contractOnwardSpec : ChangeSpec := { name := "contractOnward", fn := fun _ => fun
  | [d1, d2, d3, d4, d5] => { results := [.lit (.bool true)], args := [d1, d2, d3, d4, d5] }
  | _ => none }
def contractOnwardRow : OpenClaim := { program := "ytklaonoekmhakaagreat", sum := "4649b41459046a06c99a20a11a8fe87de6feae63075c4a7c402b94e0b1714a6e", func := "quitrent/quitrentlaw16.ContractOnward", spec := "contractOnward", inPlace := ["math/bits.Add64", "math/bits.Sub64"], unfollowed := true, recurses := true, apart := false }
def ContractOnwardSaid : Prop := contractOnwardRow.holds Tryz.pinned (OpenSpec.ofChange contractOnwardSpec)

/-- ITS FALSE NEIGHBOUR: 'it returns false'. Refute it at one input. -/
def contractOnwardWrong : ChangeSpec := { name := "contractOnward", fn := fun _ => fun
  | [d1, d2, d3, d4, d5] => { results := [.lit (.bool false)], args := [d1, d2, d3, d4, d5] }
  | _ => none }
def ContractOnwardWrongFalsely : Prop := contractOnwardRow.holds Tryz.pinned (OpenSpec.ofChange contractOnwardWrong)

/-- 'quitrentlaw16.ContractNear': WHATEVER THE INPUT: true; the input reads as it did. -/
def contractNearSpec : ChangeSpec := { name := "contractNear", fn := fun _ => fun
  | [d1, d2, d3, d4] => { results := [.lit (.bool true)], args := [d1, d2, d3, d4] }
  | _ => none }
def contractNearRow : OpenClaim := { program := "ytklaonoekmhakaagreat", sum := "4649b41459046a06c99a20a11a8fe87de6feae63075c4a7c402b94e0b1714a6e", func := "quitrent/quitrentlaw16.ContractNear", spec := "contractNear", inPlace := ["math/bits.Add64", "math/bits.Sub64"], unfollowed := true, recurses := true, apart := false }
def ContractNearSaid : Prop := contractNearRow.holds Tryz.pinned (OpenSpec.ofChange contractNearSpec)

/-- ITS FALSE NEIGHBOUR: 'it returns false'. Refute it at one input. -/
def contractNearWrong : ChangeSpec := { name := "contractNear", fn := fun _ => fun
  | [d1, d2, d3, d4] => { results := [.lit (.bool false)], args := [d1, d2, d3, d4] }
  | _ => none }
def ContractNearWrongFalsely : Prop := contractNearRow.holds Tryz.pinned (OpenSpec.ofChange contractNearWrong)

/- THE SECOND FORM. 'bulk': how many values and letters a reading holds, each counted each time it is reached (what is shared counts as often as it is met; a slice's spare places count too). A statement '..UptoSaid' is the law's where the arguments, and the package variables that the reading takes, are together of bulk at most 1048576: NARROWER than '..Said'. Prove '..Said' where nothing that the law and all that it calls make is longer than what came in: it says more and counts as full. Else prove '..UptoSaid'. A law counts once. -/
mutual
def uptoBulk {H : Type} : DataW H → Nat
  | .lit (.string bytes) => bytes.length + 1
  | .lit _ => 1
  | .nil => 1
  | .ptr d => uptoBulk d + 1
  | .slice elems spare => uptoBulkAll elems + uptoBulkAll spare + 1
  | .agg parts => uptoBulkAll parts + 1
  | .iface _ d => uptoBulk d + 1
  | .map entries => uptoBulkEntries entries + 1
  | .held _ => 1
def uptoBulkAll {H : Type} : List (DataW H) → Nat
  | [] => 0
  | d :: r => uptoBulk d + uptoBulkAll r
def uptoBulkEntries {H : Type} : List (Lit × DataW H) → Nat
  | [] => 0
  | x :: r => uptoBulkEntry x + uptoBulkEntries r
def uptoBulkEntry {H : Type} : Lit × DataW H → Nat
  | (.string bytes, d) => bytes.length + uptoBulk d + 1
  | (_, d) => uptoBulk d + 1
 end
def uptoSmall : (H : Type) → List (DataW H) → Bool := fun _ ds => decide (uptoBulkAll ds ≤ 1048576)
def OpenSpec.upto (s : _root_.Go.ChangeSpec) : _root_.Go.OpenSpec := { _root_.Go.OpenSpec.ofChange s with cond := some uptoSmall }

/-- 'quitrentlaw16.ContractDoes', WHERE WHAT IT READS IS OF BULK AT MOST 1048576: true; the input reads as it did. -/
def contractDoesUptoRow : OpenClaim := { program := "ytklaonoekmhakaagreat", sum := "4649b41459046a06c99a20a11a8fe87de6feae63075c4a7c402b94e0b1714a6e", func := "quitrent/quitrentlaw16.ContractDoes", spec := "contractDoes", inPlace := ["math/bits.Add64", "math/bits.Sub64"], unfollowed := true, recurses := true, apart := false, narrowed := true }
def ContractDoesUptoSaid : Prop := contractDoesUptoRow.holds Tryz.pinned (OpenSpec.upto contractDoesSpec)

/-- 'quitrentlaw16.ContractWhole', WHERE WHAT IT READS IS OF BULK AT MOST 1048576: true; the input reads as it did. -/
def contractWholeUptoRow : OpenClaim := { program := "ytklaonoekmhakaagreat", sum := "4649b41459046a06c99a20a11a8fe87de6feae63075c4a7c402b94e0b1714a6e", func := "quitrent/quitrentlaw16.ContractWhole", spec := "contractWhole", inPlace := ["math/bits.Add64", "math/bits.Sub64"], unfollowed := true, recurses := true, apart := false, narrowed := true }
def ContractWholeUptoSaid : Prop := contractWholeUptoRow.holds Tryz.pinned (OpenSpec.upto contractWholeSpec)

/-- 'quitrentlaw16.ContractEnds', WHERE WHAT IT READS IS OF BULK AT MOST 1048576: true; the input reads as it did. -/
def contractEndsUptoRow : OpenClaim := { program := "ytklaonoekmhakaagreat", sum := "4649b41459046a06c99a20a11a8fe87de6feae63075c4a7c402b94e0b1714a6e", func := "quitrent/quitrentlaw16.ContractEnds", spec := "contractEnds", inPlace := ["math/bits.Add64", "math/bits.Sub64"], unfollowed := true, recurses := true, apart := false, narrowed := true }
def ContractEndsUptoSaid : Prop := contractEndsUptoRow.holds Tryz.pinned (OpenSpec.upto contractEndsSpec)

/-- 'quitrentlaw16.ContractOnward', WHERE WHAT IT READS IS OF BULK AT MOST 1048576: true; the input reads as it did. -/
def contractOnwardUptoRow : OpenClaim := { program := "ytklaonoekmhakaagreat", sum := "4649b41459046a06c99a20a11a8fe87de6feae63075c4a7c402b94e0b1714a6e", func := "quitrent/quitrentlaw16.ContractOnward", spec := "contractOnward", inPlace := ["math/bits.Add64", "math/bits.Sub64"], unfollowed := true, recurses := true, apart := false, narrowed := true }
def ContractOnwardUptoSaid : Prop := contractOnwardUptoRow.holds Tryz.pinned (OpenSpec.upto contractOnwardSpec)

/-- 'quitrentlaw16.ContractNear', WHERE WHAT IT READS IS OF BULK AT MOST 1048576: true; the input reads as it did. -/
def contractNearUptoRow : OpenClaim := { program := "ytklaonoekmhakaagreat", sum := "4649b41459046a06c99a20a11a8fe87de6feae63075c4a7c402b94e0b1714a6e", func := "quitrent/quitrentlaw16.ContractNear", spec := "contractNear", inPlace := ["math/bits.Add64", "math/bits.Sub64"], unfollowed := true, recurses := true, apart := false, narrowed := true }
def ContractNearUptoSaid : Prop := contractNearUptoRow.holds Tryz.pinned (OpenSpec.upto contractNearSpec)

end Rows
end Go.Proofs.YtklaonoekmhakaaGreat
