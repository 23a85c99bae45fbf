/-
  DERIVED. GIVEN WITH THE SEED: THE CARDS: each row of YtejogobhnbjpdaaGreatDoorRows.lean that lists a variable, with what it lists TIED to the program's text (the seventh form; the later family's looks); each row that meets fmt, with fmt's text TOLD by the authors' own Lean function (tested against real Go, not proved from fmt's source: count such statements apart). THE CARD IS WHAT COUNTS. Prove the row's statement (the work); the ties are given (YtejogobhnbjpdaaGreatDoorTie.lean); close each card by the builder's one call (the guide's Derived/Test/ToyasCard.lean, 'card_holds'). Laid BY PROGRAM, IN A SANDBOX (cutbox-door.mjs). By AI agents, Wed Nov 11 2026. No macro, syntax, notation, axiom, sorry.
-/
import Derived.Test.YtejogobhnbjpdaaGreatDoorRows
import GoSem.ClaimSeven
namespace Go.Proofs.YtejogobhnbjpdaaGreatDoor
namespace Rows

/-- THE TIED CARD OF 'seichelaw12.HeaderIs'. -/
def headerIsCard : Claim7 := { stood := { row := headerIsRow, standIns := [], harness := (true, "62063f7944dc5c4b15807f0a64480cc3791790fb096447841412cef780655d89"), looks := false }, kinds := [], alts := [], laidByText := true, laidKinds := [.data, .pinned], laidTests := true, laidLooks := .later }
def HeaderIsCardSaid : Prop := Claim7.holds Tryz.pinned (.plain (OpenSpec.ofChange headerIsSpec)) headerIsCard

/-- THE TIED CARD OF 'seichelaw12.HeaderBegins'. -/
def headerBeginsCard : Claim7 := { stood := { row := headerBeginsRow, standIns := [], harness := (true, "62063f7944dc5c4b15807f0a64480cc3791790fb096447841412cef780655d89"), looks := false }, kinds := [], alts := [], laidByText := true, laidKinds := [.data, .pinned], laidTests := true, laidLooks := .later }
def HeaderBeginsCardSaid : Prop := Claim7.holds Tryz.pinned (.plain (OpenSpec.ofChange headerBeginsSpec)) headerBeginsCard

/-- THE TIED CARD OF 'seichelaw12.HeaderFaults'. -/
def headerFaultsCard : Claim7 := { stood := { row := headerFaultsRow, standIns := [], harness := (true, "62063f7944dc5c4b15807f0a64480cc3791790fb096447841412cef780655d89"), looks := false }, kinds := [], alts := [], laidByText := true, laidKinds := [.data, .pinned], laidTests := true, laidLooks := .later }
def HeaderFaultsCardSaid : Prop := Claim7.holds Tryz.pinned (.plain (OpenSpec.ofChange headerFaultsSpec)) headerFaultsCard

/-- THE SECOND FORM's CARD OF 'seichelaw12.HeaderIs'. -/
def headerIsUptoCard : Claim7 := { stood := { row := headerIsUptoRow, standIns := [], harness := (true, "62063f7944dc5c4b15807f0a64480cc3791790fb096447841412cef780655d89"), looks := false }, kinds := [], alts := [], laidByText := true, laidKinds := [.data, .pinned], laidTests := true, laidLooks := .later }
def HeaderIsUptoCardSaid : Prop := Claim7.holds Tryz.pinned (.plain (OpenSpec.upto headerIsSpec)) headerIsUptoCard

/-- THE SECOND FORM's CARD OF 'seichelaw12.HeaderBegins'. -/
def headerBeginsUptoCard : Claim7 := { stood := { row := headerBeginsUptoRow, standIns := [], harness := (true, "62063f7944dc5c4b15807f0a64480cc3791790fb096447841412cef780655d89"), looks := false }, kinds := [], alts := [], laidByText := true, laidKinds := [.data, .pinned], laidTests := true, laidLooks := .later }
def HeaderBeginsUptoCardSaid : Prop := Claim7.holds Tryz.pinned (.plain (OpenSpec.upto headerBeginsSpec)) headerBeginsUptoCard

/-- THE SECOND FORM's CARD OF 'seichelaw12.HeaderFaults'. -/
def headerFaultsUptoCard : Claim7 := { stood := { row := headerFaultsUptoRow, standIns := [], harness := (true, "62063f7944dc5c4b15807f0a64480cc3791790fb096447841412cef780655d89"), looks := false }, kinds := [], alts := [], laidByText := true, laidKinds := [.data, .pinned], laidTests := true, laidLooks := .later }
def HeaderFaultsUptoCardSaid : Prop := Claim7.holds Tryz.pinned (.plain (OpenSpec.upto headerFaultsSpec)) headerFaultsUptoCard
end Rows
end Go.Proofs.YtejogobhnbjpdaaGreatDoor
