/-
  No cell of these rows narrows 'for every input' (looked for: loops, veiled, ifaces, maps, wideKeys, modest, calm, conditions, laid).
  DERIVED. THE GIVEN ROWS OF THIS SEAT. 4 by the template 'for every input the law returns true; each argument reads behind the call as it read before'; 0 by the template 'total and deterministic' (their statements: YtlplbgandehkcaaTotals.lean).
  GIVEN WITH THE SEED: the statements are not yours to turn. If you find one false, say at which input.
  Laid BY PROGRAM, IN A SANDBOX (cutbox-rows.mjs): the forced cells as the released guide's own fill.sh prints them over the translation 9b76ced1c02420bc… (all of the seat's roots in one cut). By AI agents, Wed Nov 11 2026. No macro, syntax, notation, axiom, sorry.
-/
import Derived.Test.YtlplbgandehkcaaChecked
import GoSem.Claim
import GoSem.ClaimJoined
import GoSem.ClaimMapViews
import Derived.JoinedTies
import Derived.KernelRfl
namespace Go.Proofs.Ytlplbgandehkcaa
/- THE CELL 'sum', in the pinned program and in every row, IS THE sha256 OF THE DUMP (.gsa) THAT YtlplbgandehkcaaProg.lean LOADS. Nothing in Lean hashes anything: it is a label: what it is worth is what the hold of that sum in a sandbox is worth. -/
noncomputable def Try.pinned : Pinned := { name := "ytlplbgandehkcaa", sum := "9b76ced1c02420bc39151ef923faea360c5afdf4cc5ced811cbe48cbfc8846da", checked := Try.checked }
namespace Rows
def none {H : Type} : Left H := { results := [], args := [] }

/-- 'quitrentlaw14.DoneTells': WHATEVER THE INPUT: true; the input reads as it did. -/
def doneTellsSpec : ChangeSpec := { name := "doneTells", fn := fun _ => fun
  | [d1, d2, d3] => { results := [.lit (.bool true)], args := [d1, d2, d3] }
  | _ => none }
def doneTellsRow : OpenClaim := { program := "ytlplbgandehkcaa", sum := "9b76ced1c02420bc39151ef923faea360c5afdf4cc5ced811cbe48cbfc8846da", func := "quitrent/quitrentlaw14.DoneTells", spec := "doneTells", inPlace := ["math/bits.Add64"], recurses := true, apart := false }
def DoneTellsSaid : Prop := doneTellsRow.holds Try.pinned (OpenSpec.ofChange doneTellsSpec)

/-- ITS FALSE NEIGHBOUR: 'it returns false'. Refute it at one input. -/
def doneTellsWrong : ChangeSpec := { name := "doneTells", fn := fun _ => fun
  | [d1, d2, d3] => { results := [.lit (.bool false)], args := [d1, d2, d3] }
  | _ => none }
def DoneTellsWrongFalsely : Prop := doneTellsRow.holds Try.pinned (OpenSpec.ofChange doneTellsWrong)

/-- 'quitrentlaw14.DoneRises': WHATEVER THE INPUT: true; the input reads as it did. -/
def doneRisesSpec : ChangeSpec := { name := "doneRises", fn := fun _ => fun
  | [d1, d2, d3, d4, d5] => { results := [.lit (.bool true)], args := [d1, d2, d3, d4, d5] }
  | _ => none }
def doneRisesRow : OpenClaim := { program := "ytlplbgandehkcaa", sum := "9b76ced1c02420bc39151ef923faea360c5afdf4cc5ced811cbe48cbfc8846da", func := "quitrent/quitrentlaw14.DoneRises", spec := "doneRises", inPlace := ["math/bits.Add64"], apart := false }
def DoneRisesSaid : Prop := doneRisesRow.holds Try.pinned (OpenSpec.ofChange doneRisesSpec)

/-- ITS FALSE NEIGHBOUR: 'it returns false'. Refute it at one input. -/
def doneRisesWrong : ChangeSpec := { name := "doneRises", fn := fun _ => fun
  | [d1, d2, d3, d4, d5] => { results := [.lit (.bool false)], args := [d1, d2, d3, d4, d5] }
  | _ => none }
def DoneRisesWrongFalsely : Prop := doneRisesRow.holds Try.pinned (OpenSpec.ofChange doneRisesWrong)

/-- 'quitrentlaw14.DoneOrder': WHATEVER THE INPUT: true; the input reads as it did. -/
def doneOrderSpec : ChangeSpec := { name := "doneOrder", fn := fun _ => fun
  | [d1, d2, d3] => { results := [.lit (.bool true)], args := [d1, d2, d3] }
  | _ => none }
def doneOrderRow : OpenClaim := { program := "ytlplbgandehkcaa", sum := "9b76ced1c02420bc39151ef923faea360c5afdf4cc5ced811cbe48cbfc8846da", func := "quitrent/quitrentlaw14.DoneOrder", spec := "doneOrder", inPlace := ["math/bits.Add64"], apart := false }
def DoneOrderSaid : Prop := doneOrderRow.holds Try.pinned (OpenSpec.ofChange doneOrderSpec)

/-- ITS FALSE NEIGHBOUR: 'it returns false'. Refute it at one input. -/
def doneOrderWrong : ChangeSpec := { name := "doneOrder", fn := fun _ => fun
  | [d1, d2, d3] => { results := [.lit (.bool false)], args := [d1, d2, d3] }
  | _ => none }
def DoneOrderWrongFalsely : Prop := doneOrderRow.holds Try.pinned (OpenSpec.ofChange doneOrderWrong)

/-- 'quitrentlaw14.DoneEnds': WHATEVER THE INPUT: true; the input reads as it did. -/
def doneEndsSpec : ChangeSpec := { name := "doneEnds", fn := fun _ => fun
  | [d1, d2] => { results := [.lit (.bool true)], args := [d1, d2] }
  | _ => none }
def doneEndsRow : OpenClaim := { program := "ytlplbgandehkcaa", sum := "9b76ced1c02420bc39151ef923faea360c5afdf4cc5ced811cbe48cbfc8846da", func := "quitrent/quitrentlaw14.DoneEnds", spec := "doneEnds", inPlace := ["math/bits.Add64"], apart := false }
def DoneEndsSaid : Prop := doneEndsRow.holds Try.pinned (OpenSpec.ofChange doneEndsSpec)

/-- ITS FALSE NEIGHBOUR: 'it returns false'. Refute it at one input. -/
def doneEndsWrong : ChangeSpec := { name := "doneEnds", fn := fun _ => fun
  | [d1, d2] => { results := [.lit (.bool false)], args := [d1, d2] }
  | _ => none }
def DoneEndsWrongFalsely : Prop := doneEndsRow.holds Try.pinned (OpenSpec.ofChange doneEndsWrong)

/- THE SECOND FORM. 'bulk': how many values and letters a reading holds, each counted each time it is reached (what is shared counts as often as it is met; a slice's spare places count too). A statement '..UptoSaid' is the law's where the arguments, and the package variables that the reading takes, are together of bulk at most 1048576: NARROWER than '..Said'. Prove '..Said' where nothing that the law and all that it calls make is longer than what came in: it says more and counts as full. Else prove '..UptoSaid'. A law counts once. -/
mutual
def uptoBulk {H : Type} : DataW H → Nat
  | .lit (.string bytes) => bytes.length + 1
  | .lit _ => 1
  | .nil => 1
  | .ptr d => uptoBulk d + 1
  | .slice elems spare => uptoBulkAll elems + uptoBulkAll spare + 1
  | .agg parts => uptoBulkAll parts + 1
  | .iface _ d => uptoBulk d + 1
  | .map entries => uptoBulkEntries entries + 1
  | .held _ => 1
def uptoBulkAll {H : Type} : List (DataW H) → Nat
  | [] => 0
  | d :: r => uptoBulk d + uptoBulkAll r
def uptoBulkEntries {H : Type} : List (Lit × DataW H) → Nat
  | [] => 0
  | x :: r => uptoBulkEntry x + uptoBulkEntries r
def uptoBulkEntry {H : Type} : Lit × DataW H → Nat
  | (.string bytes, d) => bytes.length + uptoBulk d + 1
  | (_, d) => uptoBulk d + 1
 end
def uptoSmall : (H : Type) → List (DataW H) → Bool := fun _ ds => decide (uptoBulkAll ds ≤ 1048576)
def OpenSpec.upto (s : _root_.Go.ChangeSpec) : _root_.Go.OpenSpec := { _root_.Go.OpenSpec.ofChange s with cond := some uptoSmall }

/-- 'quitrentlaw14.DoneTells', WHERE WHAT IT READS IS OF BULK AT MOST 1048576: true; the input reads as it did. -/
def doneTellsUptoRow : OpenClaim := { program := "ytlplbgandehkcaa", sum := "9b76ced1c02420bc39151ef923faea360c5afdf4cc5ced811cbe48cbfc8846da", func := "quitrent/quitrentlaw14.DoneTells", spec := "doneTells", inPlace := ["math/bits.Add64"], recurses := true, apart := false, narrowed := true }
def DoneTellsUptoSaid : Prop := doneTellsUptoRow.holds Try.pinned (OpenSpec.upto doneTellsSpec)

/-- 'quitrentlaw14.DoneRises', WHERE WHAT IT READS IS OF BULK AT MOST 1048576: true; the input reads as it did. -/
def doneRisesUptoRow : OpenClaim := { program := "ytlplbgandehkcaa", sum := "9b76ced1c02420bc39151ef923faea360c5afdf4cc5ced811cbe48cbfc8846da", func := "quitrent/quitrentlaw14.DoneRises", spec := "doneRises", inPlace := ["math/bits.Add64"], apart := false, narrowed := true }
def DoneRisesUptoSaid : Prop := doneRisesUptoRow.holds Try.pinned (OpenSpec.upto doneRisesSpec)

/-- 'quitrentlaw14.DoneOrder', WHERE WHAT IT READS IS OF BULK AT MOST 1048576: true; the input reads as it did. -/
def doneOrderUptoRow : OpenClaim := { program := "ytlplbgandehkcaa", sum := "9b76ced1c02420bc39151ef923faea360c5afdf4cc5ced811cbe48cbfc8846da", func := "quitrent/quitrentlaw14.DoneOrder", spec := "doneOrder", inPlace := ["math/bits.Add64"], apart := false, narrowed := true }
def DoneOrderUptoSaid : Prop := doneOrderUptoRow.holds Try.pinned (OpenSpec.upto doneOrderSpec)

/-- 'quitrentlaw14.DoneEnds', WHERE WHAT IT READS IS OF BULK AT MOST 1048576: true; the input reads as it did. -/
def doneEndsUptoRow : OpenClaim := { program := "ytlplbgandehkcaa", sum := "9b76ced1c02420bc39151ef923faea360c5afdf4cc5ced811cbe48cbfc8846da", func := "quitrent/quitrentlaw14.DoneEnds", spec := "doneEnds", inPlace := ["math/bits.Add64"], apart := false, narrowed := true }
def DoneEndsUptoSaid : Prop := doneEndsUptoRow.holds Try.pinned (OpenSpec.upto doneEndsSpec)

end Rows
end Go.Proofs.Ytlplbgandehkcaa
