/-
  DERIVED. GIVEN WITH THE SEED: THE CARDS: each row of YtjffcgimdffkoaaDoorRows.lean that lists a variable, with what it lists TIED to the program's text (the seventh form; the later family's looks); each row that meets fmt, with fmt's text TOLD by the authors' own Lean function (tested against real Go, not proved from fmt's source: count such statements apart). THE CARD IS WHAT COUNTS. Prove the row's statement (the work); the ties are given (YtjffcgimdffkoaaDoorTie.lean); close each card by the builder's one call (the guide's Derived/Test/ToyasCard.lean, 'card_holds'). Laid BY PROGRAM, IN A SANDBOX (cutbox-door.mjs). By AI agents, Wed Nov 11 2026. No macro, syntax, notation, axiom, sorry.
-/
import Derived.Test.YtjffcgimdffkoaaDoorRows
import GoSem.ClaimSeven
namespace Go.Proofs.YtjffcgimdffkoaaDoor
namespace Rows

/-- THE TIED CARD OF 'quitrentlaw07.JournalSure'. -/
def journalSureCard : Claim7 := { stood := { row := journalSureRow, standIns := [], harness := (true, "737b47185217437bbca46a710382b579607008ec196ad17e771f47bd9b760651"), looks := false }, kinds := [], alts := [], laidByText := true, laidKinds := [.data, .data, .pinned], laidTests := true, laidLooks := .later }
def JournalSureCardSaid : Prop := Claim7.holds Tryd.pinned (.plain (OpenSpec.ofChange journalSureSpec)) journalSureCard

/-- THE TIED CARD OF 'quitrentlaw07.JournalGoes'. -/
def journalGoesCard : Claim7 := { stood := { row := journalGoesRow, standIns := [], harness := (true, "737b47185217437bbca46a710382b579607008ec196ad17e771f47bd9b760651"), looks := false }, kinds := [], alts := [], laidByText := true, laidKinds := [.data, .data, .pinned], laidTests := true, laidLooks := .later }
def JournalGoesCardSaid : Prop := Claim7.holds Tryd.pinned (.plain (OpenSpec.ofChange journalGoesSpec)) journalGoesCard

/-- THE SECOND FORM's CARD OF 'quitrentlaw07.JournalSure'. -/
def journalSureUptoCard : Claim7 := { stood := { row := journalSureUptoRow, standIns := [], harness := (true, "737b47185217437bbca46a710382b579607008ec196ad17e771f47bd9b760651"), looks := false }, kinds := [], alts := [], laidByText := true, laidKinds := [.data, .data, .pinned], laidTests := true, laidLooks := .later }
def JournalSureUptoCardSaid : Prop := Claim7.holds Tryd.pinned (.plain (OpenSpec.upto journalSureSpec)) journalSureUptoCard

/-- THE SECOND FORM's CARD OF 'quitrentlaw07.JournalGoes'. -/
def journalGoesUptoCard : Claim7 := { stood := { row := journalGoesUptoRow, standIns := [], harness := (true, "737b47185217437bbca46a710382b579607008ec196ad17e771f47bd9b760651"), looks := false }, kinds := [], alts := [], laidByText := true, laidKinds := [.data, .data, .pinned], laidTests := true, laidLooks := .later }
def JournalGoesUptoCardSaid : Prop := Claim7.holds Tryd.pinned (.plain (OpenSpec.upto journalGoesSpec)) journalGoesUptoCard
end Rows
end Go.Proofs.YtjffcgimdffkoaaDoor
