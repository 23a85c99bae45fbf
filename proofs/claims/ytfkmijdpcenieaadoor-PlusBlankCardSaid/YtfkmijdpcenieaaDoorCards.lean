/-
  DERIVED. GIVEN WITH THE SEED: THE CARDS: each row of YtfkmijdpcenieaaDoorRows.lean that lists a variable, with what it lists TIED to the program's text (the seventh form; the later family's looks); each row that meets fmt, with fmt's text TOLD by the authors' own Lean function (tested against real Go, not proved from fmt's source: count such statements apart). THE CARD IS WHAT COUNTS. Prove the row's statement (the work); the ties are given (YtfkmijdpcenieaaDoorTie.lean); close each card by the builder's one call (the guide's Derived/Test/ToyasCard.lean, 'card_holds'). Laid BY PROGRAM, IN A SANDBOX (cutbox-door.mjs). By AI agents, Wed Nov 11 2026. No macro, syntax, notation, axiom, sorry.
-/
import Derived.Test.YtfkmijdpcenieaaDoorRows
import GoSem.ClaimSeven
namespace Go.Proofs.YtfkmijdpcenieaaDoor
namespace Rows

/-- THE TIED CARD OF 'seichelaw14.PlusLines'. -/
def plusLinesCard : Claim7 := { stood := { row := plusLinesRow, standIns := [], harness := (true, "ff90d1e8134cf6a3ea0c9ebc3a230527725d597c1412309059dcd43c3fff541f"), looks := false }, kinds := [], alts := [], laidByText := true, laidKinds := [.data, .pinned], laidTests := true, laidLooks := .later }
def PlusLinesCardSaid : Prop := Claim7.holds Tryd.pinned (.plain (OpenSpec.ofChange plusLinesSpec)) plusLinesCard

/-- THE TIED CARD OF 'seichelaw14.PlusParses'. -/
def plusParsesCard : Claim7 := { stood := { row := plusParsesRow, standIns := [], harness := (true, "ff90d1e8134cf6a3ea0c9ebc3a230527725d597c1412309059dcd43c3fff541f"), looks := false }, kinds := [], alts := [], laidByText := true, laidKinds := [.data, .pinned], laidTests := true, laidLooks := .later }
def PlusParsesCardSaid : Prop := Claim7.holds Tryd.pinned (.plain (OpenSpec.ofChange plusParsesSpec)) plusParsesCard

/-- THE TIED CARD OF 'seichelaw14.PlusMeans'. -/
def plusMeansCard : Claim7 := { stood := { row := plusMeansRow, standIns := [], harness := (true, "ff90d1e8134cf6a3ea0c9ebc3a230527725d597c1412309059dcd43c3fff541f"), looks := false }, kinds := [], alts := [], laidByText := true, laidKinds := [.data, .pinned], laidTests := true, laidLooks := .later }
def PlusMeansCardSaid : Prop := Claim7.holds Tryd.pinned (.plain (OpenSpec.ofChange plusMeansSpec)) plusMeansCard

/-- THE TIED CARD OF 'seichelaw14.PlusOne'. -/
def plusOneCard : Claim7 := { stood := { row := plusOneRow, standIns := [], harness := (true, "ff90d1e8134cf6a3ea0c9ebc3a230527725d597c1412309059dcd43c3fff541f"), looks := false }, kinds := [], alts := [], laidByText := true, laidKinds := [.data, .pinned], laidTests := true, laidLooks := .later }
def PlusOneCardSaid : Prop := Claim7.holds Tryd.pinned (.plain (OpenSpec.ofChange plusOneSpec)) plusOneCard

/-- THE TIED CARD OF 'seichelaw14.PlusBlank'. -/
def plusBlankCard : Claim7 := { stood := { row := plusBlankRow, standIns := [], harness := (true, "ff90d1e8134cf6a3ea0c9ebc3a230527725d597c1412309059dcd43c3fff541f"), looks := false }, kinds := [], alts := [], laidByText := true, laidKinds := [.data, .pinned], laidTests := true, laidLooks := .later }
def PlusBlankCardSaid : Prop := Claim7.holds Tryd.pinned (.plain (OpenSpec.ofChange plusBlankSpec)) plusBlankCard

/-- THE SECOND FORM's CARD OF 'seichelaw14.PlusLines'. -/
def plusLinesUptoCard : Claim7 := { stood := { row := plusLinesUptoRow, standIns := [], harness := (true, "ff90d1e8134cf6a3ea0c9ebc3a230527725d597c1412309059dcd43c3fff541f"), looks := false }, kinds := [], alts := [], laidByText := true, laidKinds := [.data, .pinned], laidTests := true, laidLooks := .later }
def PlusLinesUptoCardSaid : Prop := Claim7.holds Tryd.pinned (.plain (OpenSpec.upto plusLinesSpec)) plusLinesUptoCard

/-- THE SECOND FORM's CARD OF 'seichelaw14.PlusParses'. -/
def plusParsesUptoCard : Claim7 := { stood := { row := plusParsesUptoRow, standIns := [], harness := (true, "ff90d1e8134cf6a3ea0c9ebc3a230527725d597c1412309059dcd43c3fff541f"), looks := false }, kinds := [], alts := [], laidByText := true, laidKinds := [.data, .pinned], laidTests := true, laidLooks := .later }
def PlusParsesUptoCardSaid : Prop := Claim7.holds Tryd.pinned (.plain (OpenSpec.upto plusParsesSpec)) plusParsesUptoCard

/-- THE SECOND FORM's CARD OF 'seichelaw14.PlusMeans'. -/
def plusMeansUptoCard : Claim7 := { stood := { row := plusMeansUptoRow, standIns := [], harness := (true, "ff90d1e8134cf6a3ea0c9ebc3a230527725d597c1412309059dcd43c3fff541f"), looks := false }, kinds := [], alts := [], laidByText := true, laidKinds := [.data, .pinned], laidTests := true, laidLooks := .later }
def PlusMeansUptoCardSaid : Prop := Claim7.holds Tryd.pinned (.plain (OpenSpec.upto plusMeansSpec)) plusMeansUptoCard

/-- THE SECOND FORM's CARD OF 'seichelaw14.PlusOne'. -/
def plusOneUptoCard : Claim7 := { stood := { row := plusOneUptoRow, standIns := [], harness := (true, "ff90d1e8134cf6a3ea0c9ebc3a230527725d597c1412309059dcd43c3fff541f"), looks := false }, kinds := [], alts := [], laidByText := true, laidKinds := [.data, .pinned], laidTests := true, laidLooks := .later }
def PlusOneUptoCardSaid : Prop := Claim7.holds Tryd.pinned (.plain (OpenSpec.upto plusOneSpec)) plusOneUptoCard

/-- THE SECOND FORM's CARD OF 'seichelaw14.PlusBlank'. -/
def plusBlankUptoCard : Claim7 := { stood := { row := plusBlankUptoRow, standIns := [], harness := (true, "ff90d1e8134cf6a3ea0c9ebc3a230527725d597c1412309059dcd43c3fff541f"), looks := false }, kinds := [], alts := [], laidByText := true, laidKinds := [.data, .pinned], laidTests := true, laidLooks := .later }
def PlusBlankUptoCardSaid : Prop := Claim7.holds Tryd.pinned (.plain (OpenSpec.upto plusBlankSpec)) plusBlankUptoCard
end Rows
end Go.Proofs.YtfkmijdpcenieaaDoor
