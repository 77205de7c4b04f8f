/-
  NARROWER THAN 'FOR EVERY INPUT', by the rows' own cells (each row's printed sentence says how): FiscalTells: laid · FiscalNext: laid · FiscalKinds: laid.
  DERIVED. THE GIVEN ROWS OF THIS SEAT. 3 by the template 'for every input the law returns true; each argument reads behind the call as it read before'; 0 by the template 'total and deterministic' (their statements: YtmodnkdgkdpacaaDoorTotals.lean).
  GIVEN WITH THE SEED: the statements are not yours to turn. If you find one false, say at which input.
  Laid BY PROGRAM, IN A SANDBOX (cutbox-rows.mjs): the forced cells as the released guide's own fill.sh prints them over the translation 3113e4978014f0c6… (all of the seat's roots in one cut). By AI agents, Wed Nov 11 2026. No macro, syntax, notation, axiom, sorry.
-/
import Derived.Test.YtmodnkdgkdpacaaDoorChecked
import GoSem.Claim
import GoSem.ClaimJoined
import GoSem.ClaimMapViews
import Derived.JoinedTies
import Derived.KernelRfl
namespace Go.Proofs.YtmodnkdgkdpacaaDoor
/- THE CELL 'sum', in the pinned program and in every row, IS THE sha256 OF THE DUMP (.gsa) THAT YtmodnkdgkdpacaaDoorProg.lean LOADS. Nothing in Lean hashes anything: it is a label: what it is worth is what the hold of that sum in a sandbox is worth. -/
noncomputable def Tryd.pinned : Pinned := { name := "ytmodnkdgkdpacaadoor", sum := "3113e4978014f0c65220d6a2832daa2e92f6a6f3c4edc656003625dc020498e7", checked := Tryd.checked }
namespace Rows
def none {H : Type} : Left H := { results := [], args := [] }

/- WHAT THE LISTED PACKAGE-LEVEL VARIABLES READ AS WHEN THE CALL BEGINS. Each datum BY PROGRAM (the guide's laid-datum.mjs) off the statement by which the dump's own 'gosem.cut.vars' lays the variable. In a bare row this is a premise. The card (YtmodnkdgkdpacaaDoorCards.lean) ties it to the program's text. -/
def laid_quitrent_civil_longs {H : Type} : DataW H := .agg [.lit (.int .i64 31), .lit (.int .i64 28), .lit (.int .i64 31), .lit (.int .i64 30), .lit (.int .i64 31), .lit (.int .i64 30), .lit (.int .i64 31), .lit (.int .i64 31), .lit (.int .i64 30), .lit (.int .i64 31), .lit (.int .i64 30), .lit (.int .i64 31)]

/-- 'quitrentlaw04.FiscalTells': WHATEVER THE INPUT: true; the input reads as it did. -/
def fiscalTellsSpec : ChangeSpec := { name := "fiscalTells", fn := fun _ => fun
  | [d1, d2, d3] => { results := [.lit (.bool true)], args := [d1, d2, d3] }
  | _ => none }
def fiscalTellsRow : OpenClaim := { program := "ytmodnkdgkdpacaadoor", sum := "3113e4978014f0c65220d6a2832daa2e92f6a6f3c4edc656003625dc020498e7", func := "quitrent/quitrentlaw04.FiscalTells", spec := "fiscalTells", unfollowed := true, recurses := true, named := ["quitrent/civil.longs"], apart := false, laid := [("quitrent/civil.longs", laid_quitrent_civil_longs)] }
def FiscalTellsSaid : Prop := fiscalTellsRow.holds Tryd.pinned (OpenSpec.ofChange fiscalTellsSpec)

/-- ITS FALSE NEIGHBOUR: 'it returns false'. Refute it at one input. -/
def fiscalTellsWrong : ChangeSpec := { name := "fiscalTells", fn := fun _ => fun
  | [d1, d2, d3] => { results := [.lit (.bool false)], args := [d1, d2, d3] }
  | _ => none }
def FiscalTellsWrongFalsely : Prop := fiscalTellsRow.holds Tryd.pinned (OpenSpec.ofChange fiscalTellsWrong)

/-- 'quitrentlaw04.FiscalNext': WHATEVER THE INPUT: true; the input reads as it did. -/
def fiscalNextSpec : ChangeSpec := { name := "fiscalNext", fn := fun _ => fun
  | [d1, d2, d3] => { results := [.lit (.bool true)], args := [d1, d2, d3] }
  | _ => none }
def fiscalNextRow : OpenClaim := { program := "ytmodnkdgkdpacaadoor", sum := "3113e4978014f0c65220d6a2832daa2e92f6a6f3c4edc656003625dc020498e7", func := "quitrent/quitrentlaw04.FiscalNext", spec := "fiscalNext", unfollowed := true, recurses := true, named := ["quitrent/civil.longs"], apart := false, laid := [("quitrent/civil.longs", laid_quitrent_civil_longs)] }
def FiscalNextSaid : Prop := fiscalNextRow.holds Tryd.pinned (OpenSpec.ofChange fiscalNextSpec)

/-- ITS FALSE NEIGHBOUR: 'it returns false'. Refute it at one input. -/
def fiscalNextWrong : ChangeSpec := { name := "fiscalNext", fn := fun _ => fun
  | [d1, d2, d3] => { results := [.lit (.bool false)], args := [d1, d2, d3] }
  | _ => none }
def FiscalNextWrongFalsely : Prop := fiscalNextRow.holds Tryd.pinned (OpenSpec.ofChange fiscalNextWrong)

/-- 'quitrentlaw04.FiscalKinds': WHATEVER THE INPUT: true; the input reads as it did. -/
def fiscalKindsSpec : ChangeSpec := { name := "fiscalKinds", fn := fun _ => fun
  | [d1, d2] => { results := [.lit (.bool true)], args := [d1, d2] }
  | _ => none }
def fiscalKindsRow : OpenClaim := { program := "ytmodnkdgkdpacaadoor", sum := "3113e4978014f0c65220d6a2832daa2e92f6a6f3c4edc656003625dc020498e7", func := "quitrent/quitrentlaw04.FiscalKinds", spec := "fiscalKinds", unfollowed := true, recurses := true, named := ["quitrent/civil.longs"], apart := false, laid := [("quitrent/civil.longs", laid_quitrent_civil_longs)] }
def FiscalKindsSaid : Prop := fiscalKindsRow.holds Tryd.pinned (OpenSpec.ofChange fiscalKindsSpec)

/-- ITS FALSE NEIGHBOUR: 'it returns false'. Refute it at one input. -/
def fiscalKindsWrong : ChangeSpec := { name := "fiscalKinds", fn := fun _ => fun
  | [d1, d2] => { results := [.lit (.bool false)], args := [d1, d2] }
  | _ => none }
def FiscalKindsWrongFalsely : Prop := fiscalKindsRow.holds Tryd.pinned (OpenSpec.ofChange fiscalKindsWrong)

/- THE SECOND FORM. 'bulk': how many values and letters a reading holds, each counted each time it is reached (what is shared counts as often as it is met; a slice's spare places count too). A statement '..UptoSaid' is the law's where the arguments, and the package variables that the reading takes, are together of bulk at most 1048576: NARROWER than '..Said'. Prove '..Said' where nothing that the law and all that it calls make is longer than what came in: it says more and counts as full. Else prove '..UptoSaid'. A law counts once. -/
mutual
def uptoBulk {H : Type} : DataW H → Nat
  | .lit (.string bytes) => bytes.length + 1
  | .lit _ => 1
  | .nil => 1
  | .ptr d => uptoBulk d + 1
  | .slice elems spare => uptoBulkAll elems + uptoBulkAll spare + 1
  | .agg parts => uptoBulkAll parts + 1
  | .iface _ d => uptoBulk d + 1
  | .map entries => uptoBulkEntries entries + 1
  | .held _ => 1
def uptoBulkAll {H : Type} : List (DataW H) → Nat
  | [] => 0
  | d :: r => uptoBulk d + uptoBulkAll r
def uptoBulkEntries {H : Type} : List (Lit × DataW H) → Nat
  | [] => 0
  | x :: r => uptoBulkEntry x + uptoBulkEntries r
def uptoBulkEntry {H : Type} : Lit × DataW H → Nat
  | (.string bytes, d) => bytes.length + uptoBulk d + 1
  | (_, d) => uptoBulk d + 1
 end
def uptoSmall : (H : Type) → List (DataW H) → Bool := fun _ ds => decide (uptoBulkAll ds ≤ 1048576)
def OpenSpec.upto (s : _root_.Go.ChangeSpec) : _root_.Go.OpenSpec := { _root_.Go.OpenSpec.ofChange s with cond := some uptoSmall }

/-- 'quitrentlaw04.FiscalTells', WHERE WHAT IT READS IS OF BULK AT MOST 1048576: true; the input reads as it did. -/
def fiscalTellsUptoRow : OpenClaim := { program := "ytmodnkdgkdpacaadoor", sum := "3113e4978014f0c65220d6a2832daa2e92f6a6f3c4edc656003625dc020498e7", func := "quitrent/quitrentlaw04.FiscalTells", spec := "fiscalTells", unfollowed := true, recurses := true, named := ["quitrent/civil.longs"], apart := false, laid := [("quitrent/civil.longs", laid_quitrent_civil_longs)], narrowed := true }
def FiscalTellsUptoSaid : Prop := fiscalTellsUptoRow.holds Tryd.pinned (OpenSpec.upto fiscalTellsSpec)

/-- 'quitrentlaw04.FiscalNext', WHERE WHAT IT READS IS OF BULK AT MOST 1048576: true; the input reads as it did. -/
def fiscalNextUptoRow : OpenClaim := { program := "ytmodnkdgkdpacaadoor", sum := "3113e4978014f0c65220d6a2832daa2e92f6a6f3c4edc656003625dc020498e7", func := "quitrent/quitrentlaw04.FiscalNext", spec := "fiscalNext", unfollowed := true, recurses := true, named := ["quitrent/civil.longs"], apart := false, laid := [("quitrent/civil.longs", laid_quitrent_civil_longs)], narrowed := true }
def FiscalNextUptoSaid : Prop := fiscalNextUptoRow.holds Tryd.pinned (OpenSpec.upto fiscalNextSpec)

/-- 'quitrentlaw04.FiscalKinds', WHERE WHAT IT READS IS OF BULK AT MOST 1048576: true; the input reads as it did. -/
def fiscalKindsUptoRow : OpenClaim := { program := "ytmodnkdgkdpacaadoor", sum := "3113e4978014f0c65220d6a2832daa2e92f6a6f3c4edc656003625dc020498e7", func := "quitrent/quitrentlaw04.FiscalKinds", spec := "fiscalKinds", unfollowed := true, recurses := true, named := ["quitrent/civil.longs"], apart := false, laid := [("quitrent/civil.longs", laid_quitrent_civil_longs)], narrowed := true }
def FiscalKindsUptoSaid : Prop := fiscalKindsUptoRow.holds Tryd.pinned (OpenSpec.upto fiscalKindsSpec)

end Rows
end Go.Proofs.YtmodnkdgkdpacaaDoor
