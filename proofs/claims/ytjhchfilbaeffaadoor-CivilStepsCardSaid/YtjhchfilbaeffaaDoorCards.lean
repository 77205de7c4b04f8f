/-
  DERIVED. GIVEN WITH THE SEED: THE CARDS: each row of YtjhchfilbaeffaaDoorRows.lean that lists a variable, with what it lists TIED to the program's text (the seventh form; the later family's looks); each row that meets fmt, with fmt's text TOLD by the authors' own Lean function (tested against real Go, not proved from fmt's source: count such statements apart). THE CARD IS WHAT COUNTS. Prove the row's statement (the work); the ties are given (YtjhchfilbaeffaaDoorTie.lean); close each card by the builder's one call (the guide's Derived/Test/ToyasCard.lean, 'card_holds'). Laid BY PROGRAM, IN A SANDBOX (cutbox-door.mjs). By AI agents, Wed Nov 11 2026. No macro, syntax, notation, axiom, sorry.
-/
import Derived.Test.YtjhchfilbaeffaaDoorRows
import GoSem.ClaimSeven
namespace Go.Proofs.YtjhchfilbaeffaaDoor
namespace Rows

/-- THE TIED CARD OF 'quitrentlaw03.CivilTells'. -/
def civilTellsCard : Claim7 := { stood := { row := civilTellsRow, standIns := [], harness := (true, "f1e586f2d8e47e15157067831a6eb2bd32977f09ff6dab9e487e5abf0328d925"), looks := false }, kinds := [], alts := [], laidByText := true, laidKinds := [.data], laidTests := true, laidLooks := .later }
def CivilTellsCardSaid : Prop := Claim7.holds Tryd.pinned (.plain (OpenSpec.ofChange civilTellsSpec)) civilTellsCard

/-- THE TIED CARD OF 'quitrentlaw03.CivilMoves'. -/
def civilMovesCard : Claim7 := { stood := { row := civilMovesRow, standIns := [], harness := (true, "f1e586f2d8e47e15157067831a6eb2bd32977f09ff6dab9e487e5abf0328d925"), looks := false }, kinds := [], alts := [], laidByText := true, laidKinds := [.data], laidTests := true, laidLooks := .later }
def CivilMovesCardSaid : Prop := Claim7.holds Tryd.pinned (.plain (OpenSpec.ofChange civilMovesSpec)) civilMovesCard

/-- THE TIED CARD OF 'quitrentlaw03.CivilBack'. -/
def civilBackCard : Claim7 := { stood := { row := civilBackRow, standIns := [], harness := (true, "f1e586f2d8e47e15157067831a6eb2bd32977f09ff6dab9e487e5abf0328d925"), looks := false }, kinds := [], alts := [], laidByText := true, laidKinds := [.data], laidTests := true, laidLooks := .later }
def CivilBackCardSaid : Prop := Claim7.holds Tryd.pinned (.plain (OpenSpec.ofChange civilBackSpec)) civilBackCard

/-- THE TIED CARD OF 'quitrentlaw03.CivilAgain'. -/
def civilAgainCard : Claim7 := { stood := { row := civilAgainRow, standIns := [], harness := (true, "f1e586f2d8e47e15157067831a6eb2bd32977f09ff6dab9e487e5abf0328d925"), looks := false }, kinds := [], alts := [], laidByText := true, laidKinds := [.data], laidTests := true, laidLooks := .later }
def CivilAgainCardSaid : Prop := Claim7.holds Tryd.pinned (.plain (OpenSpec.ofChange civilAgainSpec)) civilAgainCard

/-- THE TIED CARD OF 'quitrentlaw03.CivilSteps'. -/
def civilStepsCard : Claim7 := { stood := { row := civilStepsRow, standIns := [], harness := (true, "f1e586f2d8e47e15157067831a6eb2bd32977f09ff6dab9e487e5abf0328d925"), looks := false }, kinds := [], alts := [], laidByText := true, laidKinds := [.data], laidTests := true, laidLooks := .later }
def CivilStepsCardSaid : Prop := Claim7.holds Tryd.pinned (.plain (OpenSpec.ofChange civilStepsSpec)) civilStepsCard

/-- THE SECOND FORM's CARD OF 'quitrentlaw03.CivilTells'. -/
def civilTellsUptoCard : Claim7 := { stood := { row := civilTellsUptoRow, standIns := [], harness := (true, "f1e586f2d8e47e15157067831a6eb2bd32977f09ff6dab9e487e5abf0328d925"), looks := false }, kinds := [], alts := [], laidByText := true, laidKinds := [.data], laidTests := true, laidLooks := .later }
def CivilTellsUptoCardSaid : Prop := Claim7.holds Tryd.pinned (.plain (OpenSpec.upto civilTellsSpec)) civilTellsUptoCard

/-- THE SECOND FORM's CARD OF 'quitrentlaw03.CivilMoves'. -/
def civilMovesUptoCard : Claim7 := { stood := { row := civilMovesUptoRow, standIns := [], harness := (true, "f1e586f2d8e47e15157067831a6eb2bd32977f09ff6dab9e487e5abf0328d925"), looks := false }, kinds := [], alts := [], laidByText := true, laidKinds := [.data], laidTests := true, laidLooks := .later }
def CivilMovesUptoCardSaid : Prop := Claim7.holds Tryd.pinned (.plain (OpenSpec.upto civilMovesSpec)) civilMovesUptoCard

/-- THE SECOND FORM's CARD OF 'quitrentlaw03.CivilBack'. -/
def civilBackUptoCard : Claim7 := { stood := { row := civilBackUptoRow, standIns := [], harness := (true, "f1e586f2d8e47e15157067831a6eb2bd32977f09ff6dab9e487e5abf0328d925"), looks := false }, kinds := [], alts := [], laidByText := true, laidKinds := [.data], laidTests := true, laidLooks := .later }
def CivilBackUptoCardSaid : Prop := Claim7.holds Tryd.pinned (.plain (OpenSpec.upto civilBackSpec)) civilBackUptoCard

/-- THE SECOND FORM's CARD OF 'quitrentlaw03.CivilAgain'. -/
def civilAgainUptoCard : Claim7 := { stood := { row := civilAgainUptoRow, standIns := [], harness := (true, "f1e586f2d8e47e15157067831a6eb2bd32977f09ff6dab9e487e5abf0328d925"), looks := false }, kinds := [], alts := [], laidByText := true, laidKinds := [.data], laidTests := true, laidLooks := .later }
def CivilAgainUptoCardSaid : Prop := Claim7.holds Tryd.pinned (.plain (OpenSpec.upto civilAgainSpec)) civilAgainUptoCard

/-- THE SECOND FORM's CARD OF 'quitrentlaw03.CivilSteps'. -/
def civilStepsUptoCard : Claim7 := { stood := { row := civilStepsUptoRow, standIns := [], harness := (true, "f1e586f2d8e47e15157067831a6eb2bd32977f09ff6dab9e487e5abf0328d925"), looks := false }, kinds := [], alts := [], laidByText := true, laidKinds := [.data], laidTests := true, laidLooks := .later }
def CivilStepsUptoCardSaid : Prop := Claim7.holds Tryd.pinned (.plain (OpenSpec.upto civilStepsSpec)) civilStepsUptoCard
end Rows
end Go.Proofs.YtjhchfilbaeffaaDoor
