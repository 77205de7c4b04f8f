/-
  NARROWER THAN 'FOR EVERY INPUT', by the rows' own cells (each row's printed sentence says how): CivilTells: laid · CivilMoves: laid · CivilBack: laid · CivilAgain: laid · CivilSteps: laid.
  DERIVED. THE GIVEN ROWS OF THIS SEAT. 5 by the template 'for every input the law returns true; each argument reads behind the call as it read before'; 0 by the template 'total and deterministic' (their statements: YtjhchfilbaeffaaDoorTotals.lean).
  GIVEN WITH THE SEED: the statements are not yours to turn. If you find one false, say at which input.
  Laid BY PROGRAM, IN A SANDBOX (cutbox-rows.mjs): the forced cells as the released guide's own fill.sh prints them over the translation 289934bc8df36ace… (all of the seat's roots in one cut). By AI agents, Wed Nov 11 2026. No macro, syntax, notation, axiom, sorry.
-/
import Derived.Test.YtjhchfilbaeffaaDoorChecked
import GoSem.Claim
import GoSem.ClaimJoined
import GoSem.ClaimMapViews
import Derived.JoinedTies
import Derived.KernelRfl
namespace Go.Proofs.YtjhchfilbaeffaaDoor
/- THE CELL 'sum', in the pinned program and in every row, IS THE sha256 OF THE DUMP (.gsa) THAT YtjhchfilbaeffaaDoorProg.lean LOADS. Nothing in Lean hashes anything: it is a label: what it is worth is what the hold of that sum in a sandbox is worth. -/
noncomputable def Tryd.pinned : Pinned := { name := "ytjhchfilbaeffaadoor", sum := "289934bc8df36acebe744369bf393b8df0a9de8d183b52e804b4620caef0224b", checked := Tryd.checked }
namespace Rows
def none {H : Type} : Left H := { results := [], args := [] }

/- WHAT THE LISTED PACKAGE-LEVEL VARIABLES READ AS WHEN THE CALL BEGINS. Each datum BY PROGRAM (the guide's laid-datum.mjs) off the statement by which the dump's own 'gosem.cut.vars' lays the variable. In a bare row this is a premise. The card (YtjhchfilbaeffaaDoorCards.lean) ties it to the program's text. -/
def laid_quitrent_civil_longs {H : Type} : DataW H := .agg [.lit (.int .i64 31), .lit (.int .i64 28), .lit (.int .i64 31), .lit (.int .i64 30), .lit (.int .i64 31), .lit (.int .i64 30), .lit (.int .i64 31), .lit (.int .i64 31), .lit (.int .i64 30), .lit (.int .i64 31), .lit (.int .i64 30), .lit (.int .i64 31)]

/-- 'quitrentlaw03.CivilTells': WHATEVER THE INPUT: true; the input reads as it did. -/
def civilTellsSpec : ChangeSpec := { name := "civilTells", fn := fun _ => fun
  | [d1, d2, d3, d4] => { results := [.lit (.bool true)], args := [d1, d2, d3, d4] }
  | _ => none }
def civilTellsRow : OpenClaim := { program := "ytjhchfilbaeffaadoor", sum := "289934bc8df36acebe744369bf393b8df0a9de8d183b52e804b4620caef0224b", func := "quitrent/quitrentlaw03.CivilTells", spec := "civilTells", unfollowed := true, recurses := true, named := ["quitrent/civil.longs"], apart := false, laid := [("quitrent/civil.longs", laid_quitrent_civil_longs)] }
def CivilTellsSaid : Prop := civilTellsRow.holds Tryd.pinned (OpenSpec.ofChange civilTellsSpec)

/-- ITS FALSE NEIGHBOUR: 'it returns false'. Refute it at one input. -/
def civilTellsWrong : ChangeSpec := { name := "civilTells", fn := fun _ => fun
  | [d1, d2, d3, d4] => { results := [.lit (.bool false)], args := [d1, d2, d3, d4] }
  | _ => none }
def CivilTellsWrongFalsely : Prop := civilTellsRow.holds Tryd.pinned (OpenSpec.ofChange civilTellsWrong)

/-- 'quitrentlaw03.CivilMoves': WHATEVER THE INPUT: true; the input reads as it did. -/
def civilMovesSpec : ChangeSpec := { name := "civilMoves", fn := fun _ => fun
  | [d1, d2] => { results := [.lit (.bool true)], args := [d1, d2] }
  | _ => none }
def civilMovesRow : OpenClaim := { program := "ytjhchfilbaeffaadoor", sum := "289934bc8df36acebe744369bf393b8df0a9de8d183b52e804b4620caef0224b", func := "quitrent/quitrentlaw03.CivilMoves", spec := "civilMoves", unfollowed := true, recurses := true, named := ["quitrent/civil.longs"], apart := false, laid := [("quitrent/civil.longs", laid_quitrent_civil_longs)] }
def CivilMovesSaid : Prop := civilMovesRow.holds Tryd.pinned (OpenSpec.ofChange civilMovesSpec)

/-- ITS FALSE NEIGHBOUR: 'it returns false'. Refute it at one input. -/
def civilMovesWrong : ChangeSpec := { name := "civilMoves", fn := fun _ => fun
  | [d1, d2] => { results := [.lit (.bool false)], args := [d1, d2] }
  | _ => none }
def CivilMovesWrongFalsely : Prop := civilMovesRow.holds Tryd.pinned (OpenSpec.ofChange civilMovesWrong)

/-- 'quitrentlaw03.CivilBack': WHATEVER THE INPUT: true; the input reads as it did. -/
def civilBackSpec : ChangeSpec := { name := "civilBack", fn := fun _ => fun
  | [d1, d2, d3, d4] => { results := [.lit (.bool true)], args := [d1, d2, d3, d4] }
  | _ => none }
def civilBackRow : OpenClaim := { program := "ytjhchfilbaeffaadoor", sum := "289934bc8df36acebe744369bf393b8df0a9de8d183b52e804b4620caef0224b", func := "quitrent/quitrentlaw03.CivilBack", spec := "civilBack", unfollowed := true, recurses := true, named := ["quitrent/civil.longs"], apart := false, laid := [("quitrent/civil.longs", laid_quitrent_civil_longs)] }
def CivilBackSaid : Prop := civilBackRow.holds Tryd.pinned (OpenSpec.ofChange civilBackSpec)

/-- ITS FALSE NEIGHBOUR: 'it returns false'. Refute it at one input. -/
def civilBackWrong : ChangeSpec := { name := "civilBack", fn := fun _ => fun
  | [d1, d2, d3, d4] => { results := [.lit (.bool false)], args := [d1, d2, d3, d4] }
  | _ => none }
def CivilBackWrongFalsely : Prop := civilBackRow.holds Tryd.pinned (OpenSpec.ofChange civilBackWrong)

/-- 'quitrentlaw03.CivilAgain': WHATEVER THE INPUT: true; the input reads as it did. -/
def civilAgainSpec : ChangeSpec := { name := "civilAgain", fn := fun _ => fun
  | [d1, d2, d3] => { results := [.lit (.bool true)], args := [d1, d2, d3] }
  | _ => none }
def civilAgainRow : OpenClaim := { program := "ytjhchfilbaeffaadoor", sum := "289934bc8df36acebe744369bf393b8df0a9de8d183b52e804b4620caef0224b", func := "quitrent/quitrentlaw03.CivilAgain", spec := "civilAgain", unfollowed := true, recurses := true, named := ["quitrent/civil.longs"], apart := false, laid := [("quitrent/civil.longs", laid_quitrent_civil_longs)] }
def CivilAgainSaid : Prop := civilAgainRow.holds Tryd.pinned (OpenSpec.ofChange civilAgainSpec)

/-- ITS FALSE NEIGHBOUR: 'it returns false'. Refute it at one input. -/
def civilAgainWrong : ChangeSpec := { name := "civilAgain", fn := fun _ => fun
  | [d1, d2, d3] => { results := [.lit (.bool false)], args := [d1, d2, d3] }
  | _ => none }
def CivilAgainWrongFalsely : Prop := civilAgainRow.holds Tryd.pinned (OpenSpec.ofChange civilAgainWrong)

/-- 'quitrentlaw03.CivilSteps': WHATEVER THE INPUT: true; the input reads as it did. -/
def civilStepsSpec : ChangeSpec := { name := "civilSteps", fn := fun _ => fun
  | [d1, d2, d3] => { results := [.lit (.bool true)], args := [d1, d2, d3] }
  | _ => none }
def civilStepsRow : OpenClaim := { program := "ytjhchfilbaeffaadoor", sum := "289934bc8df36acebe744369bf393b8df0a9de8d183b52e804b4620caef0224b", func := "quitrent/quitrentlaw03.CivilSteps", spec := "civilSteps", unfollowed := true, recurses := true, named := ["quitrent/civil.longs"], apart := false, laid := [("quitrent/civil.longs", laid_quitrent_civil_longs)] }
def CivilStepsSaid : Prop := civilStepsRow.holds Tryd.pinned (OpenSpec.ofChange civilStepsSpec)

/-- ITS FALSE NEIGHBOUR: 'it returns false'. Refute it at one input. -/
def civilStepsWrong : ChangeSpec := { name := "civilSteps", fn := fun _ => fun
  | [d1, d2, d3] => { results := [.lit (.bool false)], args := [d1, d2, d3] }
  | _ => none }
def CivilStepsWrongFalsely : Prop := civilStepsRow.holds Tryd.pinned (OpenSpec.ofChange civilStepsWrong)

/- THE SECOND FORM. 'bulk': how many values and letters a reading holds, each counted each time it is reached (what is shared counts as often as it is met; a slice's spare places count too). A statement '..UptoSaid' is the law's where the arguments, and the package variables that the reading takes, are together of bulk at most 1048576: NARROWER than '..Said'. Prove '..Said' where nothing that the law and all that it calls make is longer than what came in: it says more and counts as full. Else prove '..UptoSaid'. A law counts once. -/
mutual
def uptoBulk {H : Type} : DataW H → Nat
  | .lit (.string bytes) => bytes.length + 1
  | .lit _ => 1
  | .nil => 1
  | .ptr d => uptoBulk d + 1
  | .slice elems spare => uptoBulkAll elems + uptoBulkAll spare + 1
  | .agg parts => uptoBulkAll parts + 1
  | .iface _ d => uptoBulk d + 1
  | .map entries => uptoBulkEntries entries + 1
  | .held _ => 1
def uptoBulkAll {H : Type} : List (DataW H) → Nat
  | [] => 0
  | d :: r => uptoBulk d + uptoBulkAll r
def uptoBulkEntries {H : Type} : List (Lit × DataW H) → Nat
  | [] => 0
  | x :: r => uptoBulkEntry x + uptoBulkEntries r
def uptoBulkEntry {H : Type} : Lit × DataW H → Nat
  | (.string bytes, d) => bytes.length + uptoBulk d + 1
  | (_, d) => uptoBulk d + 1
 end
def uptoSmall : (H : Type) → List (DataW H) → Bool := fun _ ds => decide (uptoBulkAll ds ≤ 1048576)
def OpenSpec.upto (s : _root_.Go.ChangeSpec) : _root_.Go.OpenSpec := { _root_.Go.OpenSpec.ofChange s with cond := some uptoSmall }

/-- 'quitrentlaw03.CivilTells', WHERE WHAT IT READS IS OF BULK AT MOST 1048576: true; the input reads as it did. -/
def civilTellsUptoRow : OpenClaim := { program := "ytjhchfilbaeffaadoor", sum := "289934bc8df36acebe744369bf393b8df0a9de8d183b52e804b4620caef0224b", func := "quitrent/quitrentlaw03.CivilTells", spec := "civilTells", unfollowed := true, recurses := true, named := ["quitrent/civil.longs"], apart := false, laid := [("quitrent/civil.longs", laid_quitrent_civil_longs)], narrowed := true }
def CivilTellsUptoSaid : Prop := civilTellsUptoRow.holds Tryd.pinned (OpenSpec.upto civilTellsSpec)

/-- 'quitrentlaw03.CivilMoves', WHERE WHAT IT READS IS OF BULK AT MOST 1048576: true; the input reads as it did. -/
def civilMovesUptoRow : OpenClaim := { program := "ytjhchfilbaeffaadoor", sum := "289934bc8df36acebe744369bf393b8df0a9de8d183b52e804b4620caef0224b", func := "quitrent/quitrentlaw03.CivilMoves", spec := "civilMoves", unfollowed := true, recurses := true, named := ["quitrent/civil.longs"], apart := false, laid := [("quitrent/civil.longs", laid_quitrent_civil_longs)], narrowed := true }
def CivilMovesUptoSaid : Prop := civilMovesUptoRow.holds Tryd.pinned (OpenSpec.upto civilMovesSpec)

/-- 'quitrentlaw03.CivilBack', WHERE WHAT IT READS IS OF BULK AT MOST 1048576: true; the input reads as it did. -/
def civilBackUptoRow : OpenClaim := { program := "ytjhchfilbaeffaadoor", sum := "289934bc8df36acebe744369bf393b8df0a9de8d183b52e804b4620caef0224b", func := "quitrent/quitrentlaw03.CivilBack", spec := "civilBack", unfollowed := true, recurses := true, named := ["quitrent/civil.longs"], apart := false, laid := [("quitrent/civil.longs", laid_quitrent_civil_longs)], narrowed := true }
def CivilBackUptoSaid : Prop := civilBackUptoRow.holds Tryd.pinned (OpenSpec.upto civilBackSpec)

/-- 'quitrentlaw03.CivilAgain', WHERE WHAT IT READS IS OF BULK AT MOST 1048576: true; the input reads as it did. -/
def civilAgainUptoRow : OpenClaim := { program := "ytjhchfilbaeffaadoor", sum := "289934bc8df36acebe744369bf393b8df0a9de8d183b52e804b4620caef0224b", func := "quitrent/quitrentlaw03.CivilAgain", spec := "civilAgain", unfollowed := true, recurses := true, named := ["quitrent/civil.longs"], apart := false, laid := [("quitrent/civil.longs", laid_quitrent_civil_longs)], narrowed := true }
def CivilAgainUptoSaid : Prop := civilAgainUptoRow.holds Tryd.pinned (OpenSpec.upto civilAgainSpec)

/-- 'quitrentlaw03.CivilSteps', WHERE WHAT IT READS IS OF BULK AT MOST 1048576: true; the input reads as it did. -/
def civilStepsUptoRow : OpenClaim := { program := "ytjhchfilbaeffaadoor", sum := "289934bc8df36acebe744369bf393b8df0a9de8d183b52e804b4620caef0224b", func := "quitrent/quitrentlaw03.CivilSteps", spec := "civilSteps", unfollowed := true, recurses := true, named := ["quitrent/civil.longs"], apart := false, laid := [("quitrent/civil.longs", laid_quitrent_civil_longs)], narrowed := true }
def CivilStepsUptoSaid : Prop := civilStepsUptoRow.holds Tryd.pinned (OpenSpec.upto civilStepsSpec)

end Rows
end Go.Proofs.YtjhchfilbaeffaaDoor
