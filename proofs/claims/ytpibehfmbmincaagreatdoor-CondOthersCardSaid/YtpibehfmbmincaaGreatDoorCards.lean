/-
  DERIVED. GIVEN WITH THE SEED: THE CARDS: each row of YtpibehfmbmincaaGreatDoorRows.lean that lists a variable, with what it lists TIED to the program's text (the seventh form; the later family's looks); each row that meets fmt, with fmt's text TOLD by the authors' own Lean function (tested against real Go, not proved from fmt's source: count such statements apart). THE CARD IS WHAT COUNTS. Prove the row's statement (the work); the ties are given (YtpibehfmbmincaaGreatDoorTie.lean); close each card by the builder's one call (the guide's Derived/Test/ToyasCard.lean, 'card_holds'). Laid BY PROGRAM, IN A SANDBOX (cutbox-door.mjs). By AI agents, Wed Nov 11 2026. No macro, syntax, notation, axiom, sorry.
-/
import Derived.Test.YtpibehfmbmincaaGreatDoorRows
import GoSem.ClaimSeven
namespace Go.Proofs.YtpibehfmbmincaaGreatDoor
namespace Rows

/-- THE TIED CARD OF 'seichelaw16.CondLevels'. -/
def condLevelsCard : Claim7 := { stood := { row := condLevelsRow, standIns := [], harness := (true, "c376289be01afaa88b34f73c8b99ce6af5dbcd9e12f4d66105f6414b96d973db"), looks := true }, kinds := [], alts := [], laidByText := true, laidKinds := [.data, .data, .data, .data, .sentinel, .sentinel, .pinned], laidTests := true, laidLooks := .later }
def CondLevelsCardSaid : Prop := Claim7.holds Tryz.pinned (.plain (OpenSpec.ofChange condLevelsSpec)) condLevelsCard

/-- THE TIED CARD OF 'seichelaw16.CondOthers'. -/
def condOthersCard : Claim7 := { stood := { row := condOthersRow, standIns := [], harness := (true, "c376289be01afaa88b34f73c8b99ce6af5dbcd9e12f4d66105f6414b96d973db"), looks := true }, kinds := [], alts := [], laidByText := true, laidKinds := [.data, .data, .data, .data, .sentinel, .sentinel, .pinned], laidTests := true, laidLooks := .later }
def CondOthersCardSaid : Prop := Claim7.holds Tryz.pinned (.plain (OpenSpec.ofChange condOthersSpec)) condOthersCard

/-- THE TIED CARD OF 'seichelaw16.CondNames'. -/
def condNamesCard : Claim7 := { stood := { row := condNamesRow, standIns := [], harness := (true, "c376289be01afaa88b34f73c8b99ce6af5dbcd9e12f4d66105f6414b96d973db"), looks := true }, kinds := [], alts := [], laidByText := true, laidKinds := [.data, .data, .data, .data, .sentinel, .sentinel, .pinned], laidTests := true, laidLooks := .later }
def CondNamesCardSaid : Prop := Claim7.holds Tryz.pinned (.plain (OpenSpec.ofChange condNamesSpec)) condNamesCard

/-- THE SECOND FORM's CARD OF 'seichelaw16.CondLevels'. -/
def condLevelsUptoCard : Claim7 := { stood := { row := condLevelsUptoRow, standIns := [], harness := (true, "c376289be01afaa88b34f73c8b99ce6af5dbcd9e12f4d66105f6414b96d973db"), looks := true }, kinds := [], alts := [], laidByText := true, laidKinds := [.data, .data, .data, .data, .sentinel, .sentinel, .pinned], laidTests := true, laidLooks := .later }
def CondLevelsUptoCardSaid : Prop := Claim7.holds Tryz.pinned (.plain (OpenSpec.upto condLevelsSpec)) condLevelsUptoCard

/-- THE SECOND FORM's CARD OF 'seichelaw16.CondOthers'. -/
def condOthersUptoCard : Claim7 := { stood := { row := condOthersUptoRow, standIns := [], harness := (true, "c376289be01afaa88b34f73c8b99ce6af5dbcd9e12f4d66105f6414b96d973db"), looks := true }, kinds := [], alts := [], laidByText := true, laidKinds := [.data, .data, .data, .data, .sentinel, .sentinel, .pinned], laidTests := true, laidLooks := .later }
def CondOthersUptoCardSaid : Prop := Claim7.holds Tryz.pinned (.plain (OpenSpec.upto condOthersSpec)) condOthersUptoCard

/-- THE SECOND FORM's CARD OF 'seichelaw16.CondNames'. -/
def condNamesUptoCard : Claim7 := { stood := { row := condNamesUptoRow, standIns := [], harness := (true, "c376289be01afaa88b34f73c8b99ce6af5dbcd9e12f4d66105f6414b96d973db"), looks := true }, kinds := [], alts := [], laidByText := true, laidKinds := [.data, .data, .data, .data, .sentinel, .sentinel, .pinned], laidTests := true, laidLooks := .later }
def CondNamesUptoCardSaid : Prop := Claim7.holds Tryz.pinned (.plain (OpenSpec.upto condNamesSpec)) condNamesUptoCard
end Rows
end Go.Proofs.YtpibehfmbmincaaGreatDoor
