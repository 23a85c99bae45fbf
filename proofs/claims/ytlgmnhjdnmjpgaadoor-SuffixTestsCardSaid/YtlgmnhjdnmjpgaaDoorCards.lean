/-
  DERIVED. GIVEN WITH THE SEED: THE CARDS: each row of YtlgmnhjdnmjpgaaDoorRows.lean that lists a variable, with what it lists TIED to the program's text (the seventh form; the later family's looks); each row that meets fmt, with fmt's text TOLD by the authors' own Lean function (tested against real Go, not proved from fmt's source: count such statements apart). THE CARD IS WHAT COUNTS. Prove the row's statement (the work); the ties are given (YtlgmnhjdnmjpgaaDoorTie.lean); close each card by the builder's one call (the guide's Derived/Test/ToyasCard.lean, 'card_holds'). Laid BY PROGRAM, IN A SANDBOX (cutbox-door.mjs). By AI agents, Wed Nov 11 2026. No macro, syntax, notation, axiom, sorry.
-/
import Derived.Test.YtlgmnhjdnmjpgaaDoorRows
import GoSem.ClaimSeven
namespace Go.Proofs.YtlgmnhjdnmjpgaaDoor
namespace Rows

/-- THE TIED CARD OF 'seichelaw15.SuffixKnows'. -/
def suffixKnowsCard : Claim7 := { stood := { row := suffixKnowsRow, standIns := [], harness := (true, "4bd48c6631fcdf9ed6cb775b9665b806760f057e50debf7e940481ade0376bc2"), looks := false }, kinds := [], alts := [], laidByText := true, laidKinds := [.data, .pinned], laidTests := true, laidLooks := .later }
def SuffixKnowsCardSaid : Prop := Claim7.holds Tryd.pinned (.plain (OpenSpec.ofChange suffixKnowsSpec)) suffixKnowsCard

/-- THE TIED CARD OF 'seichelaw15.SuffixOf'. -/
def suffixOfCard : Claim7 := { stood := { row := suffixOfRow, standIns := [], harness := (true, "4bd48c6631fcdf9ed6cb775b9665b806760f057e50debf7e940481ade0376bc2"), looks := false }, kinds := [], alts := [], laidByText := true, laidKinds := [.data, .pinned], laidTests := true, laidLooks := .later }
def SuffixOfCardSaid : Prop := Claim7.holds Tryd.pinned (.plain (OpenSpec.ofChange suffixOfSpec)) suffixOfCard

/-- THE TIED CARD OF 'seichelaw15.SuffixTells'. -/
def suffixTellsCard : Claim7 := { stood := { row := suffixTellsRow, standIns := [], harness := (true, "4bd48c6631fcdf9ed6cb775b9665b806760f057e50debf7e940481ade0376bc2"), looks := false }, kinds := [], alts := [], laidByText := true, laidKinds := [.data, .pinned], laidTests := true, laidLooks := .later }
def SuffixTellsCardSaid : Prop := Claim7.holds Tryd.pinned (.plain (OpenSpec.ofChange suffixTellsSpec)) suffixTellsCard

/-- THE TIED CARD OF 'seichelaw15.SuffixTests'. -/
def suffixTestsCard : Claim7 := { stood := { row := suffixTestsRow, standIns := [], harness := (true, "4bd48c6631fcdf9ed6cb775b9665b806760f057e50debf7e940481ade0376bc2"), looks := false }, kinds := [], alts := [], laidByText := true, laidKinds := [.data, .pinned], laidTests := true, laidLooks := .later }
def SuffixTestsCardSaid : Prop := Claim7.holds Tryd.pinned (.plain (OpenSpec.ofChange suffixTestsSpec)) suffixTestsCard

/-- THE SECOND FORM's CARD OF 'seichelaw15.SuffixKnows'. -/
def suffixKnowsUptoCard : Claim7 := { stood := { row := suffixKnowsUptoRow, standIns := [], harness := (true, "4bd48c6631fcdf9ed6cb775b9665b806760f057e50debf7e940481ade0376bc2"), looks := false }, kinds := [], alts := [], laidByText := true, laidKinds := [.data, .pinned], laidTests := true, laidLooks := .later }
def SuffixKnowsUptoCardSaid : Prop := Claim7.holds Tryd.pinned (.plain (OpenSpec.upto suffixKnowsSpec)) suffixKnowsUptoCard

/-- THE SECOND FORM's CARD OF 'seichelaw15.SuffixOf'. -/
def suffixOfUptoCard : Claim7 := { stood := { row := suffixOfUptoRow, standIns := [], harness := (true, "4bd48c6631fcdf9ed6cb775b9665b806760f057e50debf7e940481ade0376bc2"), looks := false }, kinds := [], alts := [], laidByText := true, laidKinds := [.data, .pinned], laidTests := true, laidLooks := .later }
def SuffixOfUptoCardSaid : Prop := Claim7.holds Tryd.pinned (.plain (OpenSpec.upto suffixOfSpec)) suffixOfUptoCard

/-- THE SECOND FORM's CARD OF 'seichelaw15.SuffixTells'. -/
def suffixTellsUptoCard : Claim7 := { stood := { row := suffixTellsUptoRow, standIns := [], harness := (true, "4bd48c6631fcdf9ed6cb775b9665b806760f057e50debf7e940481ade0376bc2"), looks := false }, kinds := [], alts := [], laidByText := true, laidKinds := [.data, .pinned], laidTests := true, laidLooks := .later }
def SuffixTellsUptoCardSaid : Prop := Claim7.holds Tryd.pinned (.plain (OpenSpec.upto suffixTellsSpec)) suffixTellsUptoCard

/-- THE SECOND FORM's CARD OF 'seichelaw15.SuffixTests'. -/
def suffixTestsUptoCard : Claim7 := { stood := { row := suffixTestsUptoRow, standIns := [], harness := (true, "4bd48c6631fcdf9ed6cb775b9665b806760f057e50debf7e940481ade0376bc2"), looks := false }, kinds := [], alts := [], laidByText := true, laidKinds := [.data, .pinned], laidTests := true, laidLooks := .later }
def SuffixTestsUptoCardSaid : Prop := Claim7.holds Tryd.pinned (.plain (OpenSpec.upto suffixTestsSpec)) suffixTestsUptoCard
end Rows
end Go.Proofs.YtlgmnhjdnmjpgaaDoor
