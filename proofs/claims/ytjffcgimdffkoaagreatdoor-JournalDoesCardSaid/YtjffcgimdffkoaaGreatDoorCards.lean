/-
  DERIVED. GIVEN WITH THE SEED: THE CARDS: each row of YtjffcgimdffkoaaGreatDoorRows.lean that lists a variable, with what it lists TIED to the program's text (the seventh form; the later family's looks); each row that meets fmt, with fmt's text TOLD by the authors' own Lean function (tested against real Go, not proved from fmt's source: count such statements apart). THE CARD IS WHAT COUNTS. Prove the row's statement (the work); the ties are given (YtjffcgimdffkoaaGreatDoorTie.lean); close each card by the builder's one call (the guide's Derived/Test/ToyasCard.lean, 'card_holds'). Laid BY PROGRAM, IN A SANDBOX (cutbox-door.mjs). By AI agents, Wed Nov 11 2026. No macro, syntax, notation, axiom, sorry.
-/
import Derived.Test.YtjffcgimdffkoaaGreatDoorRows
import GoSem.ClaimSeven
namespace Go.Proofs.YtjffcgimdffkoaaGreatDoor
namespace Rows

/-- THE TIED CARD OF 'quitrentlaw07.JournalDoes'. -/
def journalDoesCard : Claim7 := { stood := { row := journalDoesRow, standIns := [], harness := (true, "f586af8d907e26e91970c0ae97bd182e7c5611728a7044097854ede7d41d1315"), looks := false }, kinds := [], alts := [], laidByText := true, laidKinds := [.data, .data, .pinned], laidTests := true, laidLooks := .later }
def JournalDoesCardSaid : Prop := Claim7.holds Tryz.pinned (.plain (OpenSpec.ofChange journalDoesSpec)) journalDoesCard

/-- THE SECOND FORM's CARD OF 'quitrentlaw07.JournalDoes'. -/
def journalDoesUptoCard : Claim7 := { stood := { row := journalDoesUptoRow, standIns := [], harness := (true, "f586af8d907e26e91970c0ae97bd182e7c5611728a7044097854ede7d41d1315"), looks := false }, kinds := [], alts := [], laidByText := true, laidKinds := [.data, .data, .pinned], laidTests := true, laidLooks := .later }
def JournalDoesUptoCardSaid : Prop := Claim7.holds Tryz.pinned (.plain (OpenSpec.upto journalDoesSpec)) journalDoesUptoCard
end Rows
end Go.Proofs.YtjffcgimdffkoaaGreatDoor
