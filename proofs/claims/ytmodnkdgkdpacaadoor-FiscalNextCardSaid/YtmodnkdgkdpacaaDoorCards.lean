/-
  DERIVED. GIVEN WITH THE SEED: THE CARDS: each row of YtmodnkdgkdpacaaDoorRows.lean that lists a variable, with what it lists TIED to the program's text (the seventh form; the later family's looks); each row that meets fmt, with fmt's text TOLD by the authors' own Lean function (tested against real Go, not proved from fmt's source: count such statements apart). THE CARD IS WHAT COUNTS. Prove the row's statement (the work); the ties are given (YtmodnkdgkdpacaaDoorTie.lean); close each card by the builder's one call (the guide's Derived/Test/ToyasCard.lean, 'card_holds'). Laid BY PROGRAM, IN A SANDBOX (cutbox-door.mjs). By AI agents, Wed Nov 11 2026. No macro, syntax, notation, axiom, sorry.
-/
import Derived.Test.YtmodnkdgkdpacaaDoorRows
import GoSem.ClaimSeven
namespace Go.Proofs.YtmodnkdgkdpacaaDoor
namespace Rows

/-- THE TIED CARD OF 'quitrentlaw04.FiscalTells'. -/
def fiscalTellsCard : Claim7 := { stood := { row := fiscalTellsRow, standIns := [], harness := (true, "15f896e55af79d94d57905724946e600505b759a6e777458e40940c605a3c9b5"), looks := false }, kinds := [], alts := [], laidByText := true, laidKinds := [.data], laidTests := true, laidLooks := .later }
def FiscalTellsCardSaid : Prop := Claim7.holds Tryd.pinned (.plain (OpenSpec.ofChange fiscalTellsSpec)) fiscalTellsCard

/-- THE TIED CARD OF 'quitrentlaw04.FiscalNext'. -/
def fiscalNextCard : Claim7 := { stood := { row := fiscalNextRow, standIns := [], harness := (true, "15f896e55af79d94d57905724946e600505b759a6e777458e40940c605a3c9b5"), looks := false }, kinds := [], alts := [], laidByText := true, laidKinds := [.data], laidTests := true, laidLooks := .later }
def FiscalNextCardSaid : Prop := Claim7.holds Tryd.pinned (.plain (OpenSpec.ofChange fiscalNextSpec)) fiscalNextCard

/-- THE TIED CARD OF 'quitrentlaw04.FiscalKinds'. -/
def fiscalKindsCard : Claim7 := { stood := { row := fiscalKindsRow, standIns := [], harness := (true, "15f896e55af79d94d57905724946e600505b759a6e777458e40940c605a3c9b5"), looks := false }, kinds := [], alts := [], laidByText := true, laidKinds := [.data], laidTests := true, laidLooks := .later }
def FiscalKindsCardSaid : Prop := Claim7.holds Tryd.pinned (.plain (OpenSpec.ofChange fiscalKindsSpec)) fiscalKindsCard

/-- THE SECOND FORM's CARD OF 'quitrentlaw04.FiscalTells'. -/
def fiscalTellsUptoCard : Claim7 := { stood := { row := fiscalTellsUptoRow, standIns := [], harness := (true, "15f896e55af79d94d57905724946e600505b759a6e777458e40940c605a3c9b5"), looks := false }, kinds := [], alts := [], laidByText := true, laidKinds := [.data], laidTests := true, laidLooks := .later }
def FiscalTellsUptoCardSaid : Prop := Claim7.holds Tryd.pinned (.plain (OpenSpec.upto fiscalTellsSpec)) fiscalTellsUptoCard

/-- THE SECOND FORM's CARD OF 'quitrentlaw04.FiscalNext'. -/
def fiscalNextUptoCard : Claim7 := { stood := { row := fiscalNextUptoRow, standIns := [], harness := (true, "15f896e55af79d94d57905724946e600505b759a6e777458e40940c605a3c9b5"), looks := false }, kinds := [], alts := [], laidByText := true, laidKinds := [.data], laidTests := true, laidLooks := .later }
def FiscalNextUptoCardSaid : Prop := Claim7.holds Tryd.pinned (.plain (OpenSpec.upto fiscalNextSpec)) fiscalNextUptoCard

/-- THE SECOND FORM's CARD OF 'quitrentlaw04.FiscalKinds'. -/
def fiscalKindsUptoCard : Claim7 := { stood := { row := fiscalKindsUptoRow, standIns := [], harness := (true, "15f896e55af79d94d57905724946e600505b759a6e777458e40940c605a3c9b5"), looks := false }, kinds := [], alts := [], laidByText := true, laidKinds := [.data], laidTests := true, laidLooks := .later }
def FiscalKindsUptoCardSaid : Prop := Claim7.holds Tryd.pinned (.plain (OpenSpec.upto fiscalKindsSpec)) fiscalKindsUptoCard
end Rows
end Go.Proofs.YtmodnkdgkdpacaaDoor
