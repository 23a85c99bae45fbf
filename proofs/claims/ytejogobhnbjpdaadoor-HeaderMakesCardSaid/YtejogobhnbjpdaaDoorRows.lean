/-
  NARROWER THAN 'FOR EVERY INPUT', by the rows' own cells (each row's printed sentence says how): GolexIs: laid · GolexCovers: laid · GolexParts: laid · GolexBegins: laid · GolexSemis: laid · GolexAlone: laid · HeaderMakes: laid · HeaderMarks: laid · HeaderBlank: laid.
  DERIVED. THE GIVEN ROWS OF THIS SEAT. 9 by the template 'for every input the law returns true; each argument reads behind the call as it read before'; 0 by the template 'total and deterministic' (their statements: YtejogobhnbjpdaaDoorTotals.lean).
  GIVEN WITH THE SEED: the statements are not yours to turn. If you find one false, say at which input.
  Laid BY PROGRAM, IN A SANDBOX (cutbox-rows.mjs): the forced cells as the released guide's own fill.sh prints them over the translation f9aafd2baaae0b1a… (all of the seat's roots in one cut). By AI agents, Wed Nov 11 2026. No macro, syntax, notation, axiom, sorry.
-/
import Derived.Test.YtejogobhnbjpdaaDoorChecked
import GoSem.PinnedTables
import GoSem.Claim
import GoSem.ClaimJoined
import GoSem.ClaimMapViews
import Derived.JoinedTies
import Derived.KernelRfl
namespace Go.Proofs.YtejogobhnbjpdaaDoor
/- THE CELL 'sum', in the pinned program and in every row, IS THE sha256 OF THE DUMP (.gsa) THAT YtejogobhnbjpdaaDoorProg.lean LOADS. Nothing in Lean hashes anything: it is a label: what it is worth is what the hold of that sum in a sandbox is worth. -/
noncomputable def Tryd.pinned : Pinned := { name := "ytejogobhnbjpdaadoor", sum := "f9aafd2baaae0b1ad806edea8aa54fd0866cc4ba11eea3798ad373fdebda31f0", checked := Tryd.checked }
namespace Rows
def none {H : Type} : Left H := { results := [], args := [] }

/- WHAT THE LISTED PACKAGE-LEVEL VARIABLES READ AS WHEN THE CALL BEGINS. Each datum BY PROGRAM (the guide's laid-datum.mjs) off the statement by which the dump's own 'gosem.cut.vars' lays the variable. In a bare row this is a premise. The card (YtejogobhnbjpdaaDoorCards.lean) ties it to the program's text. -/
def laid_unicode_utf8_acceptRanges {H : Type} : DataW H := .agg [.agg [.lit (.int .u8 128), .lit (.int .u8 191)], .agg [.lit (.int .u8 160), .lit (.int .u8 191)], .agg [.lit (.int .u8 128), .lit (.int .u8 159)], .agg [.lit (.int .u8 144), .lit (.int .u8 191)], .agg [.lit (.int .u8 128), .lit (.int .u8 143)], .agg [.lit (.int .u8 0), .lit (.int .u8 0)], .agg [.lit (.int .u8 0), .lit (.int .u8 0)], .agg [.lit (.int .u8 0), .lit (.int .u8 0)], .agg [.lit (.int .u8 0), .lit (.int .u8 0)], .agg [.lit (.int .u8 0), .lit (.int .u8 0)], .agg [.lit (.int .u8 0), .lit (.int .u8 0)], .agg [.lit (.int .u8 0), .lit (.int .u8 0)], .agg [.lit (.int .u8 0), .lit (.int .u8 0)], .agg [.lit (.int .u8 0), .lit (.int .u8 0)], .agg [.lit (.int .u8 0), .lit (.int .u8 0)], .agg [.lit (.int .u8 0), .lit (.int .u8 0)]]
/-- One of Go's own tables, pinned by name: the form's constant. -/
def laid_unicode_utf8_first : DataW Unit := Go.Pinned.utf8First

/-- 'seichelaw11.GolexIs': WHATEVER THE INPUT: true; the input reads as it did. -/
def golexIsSpec : ChangeSpec := { name := "golexIs", fn := fun _ => fun
  | [d] => { results := [.lit (.bool true)], args := [d] }
  | _ => none }
def golexIsRow : OpenClaim := { program := "ytejogobhnbjpdaadoor", sum := "f9aafd2baaae0b1ad806edea8aa54fd0866cc4ba11eea3798ad373fdebda31f0", func := "seiche/seichelaw11.GolexIs", spec := "golexIs", inPlace := ["internal/bytealg.IndexByteString", "internal/bytealg.IndexString"], named := ["unicode/utf8.first", "unicode/utf8.acceptRanges", "internal/bytealg.MaxLen"], apart := false, laid := [("unicode/utf8.acceptRanges", laid_unicode_utf8_acceptRanges), ("unicode/utf8.first", laid_unicode_utf8_first)] }
def GolexIsSaid : Prop := golexIsRow.holds Tryd.pinned (OpenSpec.ofChange golexIsSpec)

/-- ITS FALSE NEIGHBOUR: 'it returns false'. Refute it at one input. -/
def golexIsWrong : ChangeSpec := { name := "golexIs", fn := fun _ => fun
  | [d] => { results := [.lit (.bool false)], args := [d] }
  | _ => none }
def GolexIsWrongFalsely : Prop := golexIsRow.holds Tryd.pinned (OpenSpec.ofChange golexIsWrong)

/-- 'seichelaw11.GolexCovers': WHATEVER THE INPUT: true; the input reads as it did. -/
def golexCoversSpec : ChangeSpec := { name := "golexCovers", fn := fun _ => fun
  | [d] => { results := [.lit (.bool true)], args := [d] }
  | _ => none }
def golexCoversRow : OpenClaim := { program := "ytejogobhnbjpdaadoor", sum := "f9aafd2baaae0b1ad806edea8aa54fd0866cc4ba11eea3798ad373fdebda31f0", func := "seiche/seichelaw11.GolexCovers", spec := "golexCovers", inPlace := ["internal/bytealg.IndexByteString", "internal/bytealg.IndexString"], named := ["unicode/utf8.first", "unicode/utf8.acceptRanges", "internal/bytealg.MaxLen"], apart := false, laid := [("unicode/utf8.acceptRanges", laid_unicode_utf8_acceptRanges), ("unicode/utf8.first", laid_unicode_utf8_first)] }
def GolexCoversSaid : Prop := golexCoversRow.holds Tryd.pinned (OpenSpec.ofChange golexCoversSpec)

/-- ITS FALSE NEIGHBOUR: 'it returns false'. Refute it at one input. -/
def golexCoversWrong : ChangeSpec := { name := "golexCovers", fn := fun _ => fun
  | [d] => { results := [.lit (.bool false)], args := [d] }
  | _ => none }
def GolexCoversWrongFalsely : Prop := golexCoversRow.holds Tryd.pinned (OpenSpec.ofChange golexCoversWrong)

/-- 'seichelaw11.GolexParts': WHATEVER THE INPUT: true; the input reads as it did. -/
def golexPartsSpec : ChangeSpec := { name := "golexParts", fn := fun _ => fun
  | [d1, d2] => { results := [.lit (.bool true)], args := [d1, d2] }
  | _ => none }
def golexPartsRow : OpenClaim := { program := "ytejogobhnbjpdaadoor", sum := "f9aafd2baaae0b1ad806edea8aa54fd0866cc4ba11eea3798ad373fdebda31f0", func := "seiche/seichelaw11.GolexParts", spec := "golexParts", inPlace := ["internal/bytealg.IndexByteString", "internal/bytealg.IndexString"], named := ["unicode/utf8.first", "unicode/utf8.acceptRanges", "internal/bytealg.MaxLen"], apart := false, laid := [("unicode/utf8.acceptRanges", laid_unicode_utf8_acceptRanges), ("unicode/utf8.first", laid_unicode_utf8_first)] }
def GolexPartsSaid : Prop := golexPartsRow.holds Tryd.pinned (OpenSpec.ofChange golexPartsSpec)

/-- ITS FALSE NEIGHBOUR: 'it returns false'. Refute it at one input. -/
def golexPartsWrong : ChangeSpec := { name := "golexParts", fn := fun _ => fun
  | [d1, d2] => { results := [.lit (.bool false)], args := [d1, d2] }
  | _ => none }
def GolexPartsWrongFalsely : Prop := golexPartsRow.holds Tryd.pinned (OpenSpec.ofChange golexPartsWrong)

/-- 'seichelaw11.GolexBegins': WHATEVER THE INPUT: true; the input reads as it did. -/
def golexBeginsSpec : ChangeSpec := { name := "golexBegins", fn := fun _ => fun
  | [d1, d2, d3] => { results := [.lit (.bool true)], args := [d1, d2, d3] }
  | _ => none }
def golexBeginsRow : OpenClaim := { program := "ytejogobhnbjpdaadoor", sum := "f9aafd2baaae0b1ad806edea8aa54fd0866cc4ba11eea3798ad373fdebda31f0", func := "seiche/seichelaw11.GolexBegins", spec := "golexBegins", inPlace := ["internal/bytealg.IndexByteString", "internal/bytealg.IndexString"], named := ["unicode/utf8.first", "unicode/utf8.acceptRanges", "internal/bytealg.MaxLen"], apart := false, laid := [("unicode/utf8.acceptRanges", laid_unicode_utf8_acceptRanges), ("unicode/utf8.first", laid_unicode_utf8_first)] }
def GolexBeginsSaid : Prop := golexBeginsRow.holds Tryd.pinned (OpenSpec.ofChange golexBeginsSpec)

/-- ITS FALSE NEIGHBOUR: 'it returns false'. Refute it at one input. -/
def golexBeginsWrong : ChangeSpec := { name := "golexBegins", fn := fun _ => fun
  | [d1, d2, d3] => { results := [.lit (.bool false)], args := [d1, d2, d3] }
  | _ => none }
def GolexBeginsWrongFalsely : Prop := golexBeginsRow.holds Tryd.pinned (OpenSpec.ofChange golexBeginsWrong)

/-- 'seichelaw11.GolexSemis': WHATEVER THE INPUT: true; the input reads as it did. -/
def golexSemisSpec : ChangeSpec := { name := "golexSemis", fn := fun _ => fun
  | [d] => { results := [.lit (.bool true)], args := [d] }
  | _ => none }
def golexSemisRow : OpenClaim := { program := "ytejogobhnbjpdaadoor", sum := "f9aafd2baaae0b1ad806edea8aa54fd0866cc4ba11eea3798ad373fdebda31f0", func := "seiche/seichelaw11.GolexSemis", spec := "golexSemis", inPlace := ["internal/bytealg.IndexByteString", "internal/bytealg.IndexString"], named := ["unicode/utf8.first", "unicode/utf8.acceptRanges", "internal/bytealg.MaxLen"], apart := false, laid := [("unicode/utf8.acceptRanges", laid_unicode_utf8_acceptRanges), ("unicode/utf8.first", laid_unicode_utf8_first)] }
def GolexSemisSaid : Prop := golexSemisRow.holds Tryd.pinned (OpenSpec.ofChange golexSemisSpec)

/-- ITS FALSE NEIGHBOUR: 'it returns false'. Refute it at one input. -/
def golexSemisWrong : ChangeSpec := { name := "golexSemis", fn := fun _ => fun
  | [d] => { results := [.lit (.bool false)], args := [d] }
  | _ => none }
def GolexSemisWrongFalsely : Prop := golexSemisRow.holds Tryd.pinned (OpenSpec.ofChange golexSemisWrong)

/-- 'seichelaw11.GolexAlone': WHATEVER THE INPUT: true; the input reads as it did. -/
def golexAloneSpec : ChangeSpec := { name := "golexAlone", fn := fun _ => fun
  | [d] => { results := [.lit (.bool true)], args := [d] }
  | _ => none }
def golexAloneRow : OpenClaim := { program := "ytejogobhnbjpdaadoor", sum := "f9aafd2baaae0b1ad806edea8aa54fd0866cc4ba11eea3798ad373fdebda31f0", func := "seiche/seichelaw11.GolexAlone", spec := "golexAlone", inPlace := ["internal/bytealg.IndexByteString", "internal/bytealg.IndexString"], named := ["unicode/utf8.first", "unicode/utf8.acceptRanges", "internal/bytealg.MaxLen"], apart := false, laid := [("unicode/utf8.acceptRanges", laid_unicode_utf8_acceptRanges), ("unicode/utf8.first", laid_unicode_utf8_first)] }
def GolexAloneSaid : Prop := golexAloneRow.holds Tryd.pinned (OpenSpec.ofChange golexAloneSpec)

/-- ITS FALSE NEIGHBOUR: 'it returns false'. Refute it at one input. -/
def golexAloneWrong : ChangeSpec := { name := "golexAlone", fn := fun _ => fun
  | [d] => { results := [.lit (.bool false)], args := [d] }
  | _ => none }
def GolexAloneWrongFalsely : Prop := golexAloneRow.holds Tryd.pinned (OpenSpec.ofChange golexAloneWrong)

/-- 'seichelaw12.HeaderMakes': WHATEVER THE INPUT: true; the input reads as it did. -/
def headerMakesSpec : ChangeSpec := { name := "headerMakes", fn := fun _ => fun
  | [d1, d2, d3, d4, d5, d6] => { results := [.lit (.bool true)], args := [d1, d2, d3, d4, d5, d6] }
  | _ => none }
def headerMakesRow : OpenClaim := { program := "ytejogobhnbjpdaadoor", sum := "f9aafd2baaae0b1ad806edea8aa54fd0866cc4ba11eea3798ad373fdebda31f0", func := "seiche/seichelaw12.HeaderMakes", spec := "headerMakes", inPlace := ["internal/bytealg.IndexByteString", "internal/bytealg.IndexString", "internal/abi.NoEscape", "internal/bytealg.MakeNoZero"], named := ["unicode/utf8.first", "unicode/utf8.acceptRanges", "internal/bytealg.MaxLen"], apart := false, laid := [("unicode/utf8.acceptRanges", laid_unicode_utf8_acceptRanges), ("unicode/utf8.first", laid_unicode_utf8_first)] }
def HeaderMakesSaid : Prop := headerMakesRow.holds Tryd.pinned (OpenSpec.ofChange headerMakesSpec)

/-- ITS FALSE NEIGHBOUR: 'it returns false'. Refute it at one input. -/
def headerMakesWrong : ChangeSpec := { name := "headerMakes", fn := fun _ => fun
  | [d1, d2, d3, d4, d5, d6] => { results := [.lit (.bool false)], args := [d1, d2, d3, d4, d5, d6] }
  | _ => none }
def HeaderMakesWrongFalsely : Prop := headerMakesRow.holds Tryd.pinned (OpenSpec.ofChange headerMakesWrong)

/-- 'seichelaw12.HeaderMarks': WHATEVER THE INPUT: true; the input reads as it did. -/
def headerMarksSpec : ChangeSpec := { name := "headerMarks", fn := fun _ => fun
  | [d] => { results := [.lit (.bool true)], args := [d] }
  | _ => none }
def headerMarksRow : OpenClaim := { program := "ytejogobhnbjpdaadoor", sum := "f9aafd2baaae0b1ad806edea8aa54fd0866cc4ba11eea3798ad373fdebda31f0", func := "seiche/seichelaw12.HeaderMarks", spec := "headerMarks", inPlace := ["internal/bytealg.IndexByteString", "internal/bytealg.IndexString", "internal/abi.NoEscape", "internal/bytealg.MakeNoZero"], named := ["unicode/utf8.first", "unicode/utf8.acceptRanges", "internal/bytealg.MaxLen"], apart := false, laid := [("unicode/utf8.acceptRanges", laid_unicode_utf8_acceptRanges), ("unicode/utf8.first", laid_unicode_utf8_first)] }
def HeaderMarksSaid : Prop := headerMarksRow.holds Tryd.pinned (OpenSpec.ofChange headerMarksSpec)

/-- ITS FALSE NEIGHBOUR: 'it returns false'. Refute it at one input. -/
def headerMarksWrong : ChangeSpec := { name := "headerMarks", fn := fun _ => fun
  | [d] => { results := [.lit (.bool false)], args := [d] }
  | _ => none }
def HeaderMarksWrongFalsely : Prop := headerMarksRow.holds Tryd.pinned (OpenSpec.ofChange headerMarksWrong)

/-- 'seichelaw12.HeaderBlank': WHATEVER THE INPUT: true; the input reads as it did. -/
def headerBlankSpec : ChangeSpec := { name := "headerBlank", fn := fun _ => fun
  | [d1, d2, d3] => { results := [.lit (.bool true)], args := [d1, d2, d3] }
  | _ => none }
def headerBlankRow : OpenClaim := { program := "ytejogobhnbjpdaadoor", sum := "f9aafd2baaae0b1ad806edea8aa54fd0866cc4ba11eea3798ad373fdebda31f0", func := "seiche/seichelaw12.HeaderBlank", spec := "headerBlank", inPlace := ["internal/bytealg.IndexByteString", "internal/bytealg.IndexString", "internal/abi.NoEscape", "internal/bytealg.MakeNoZero"], named := ["unicode/utf8.first", "unicode/utf8.acceptRanges", "internal/bytealg.MaxLen"], apart := false, laid := [("unicode/utf8.acceptRanges", laid_unicode_utf8_acceptRanges), ("unicode/utf8.first", laid_unicode_utf8_first)] }
def HeaderBlankSaid : Prop := headerBlankRow.holds Tryd.pinned (OpenSpec.ofChange headerBlankSpec)

/-- ITS FALSE NEIGHBOUR: 'it returns false'. Refute it at one input. -/
def headerBlankWrong : ChangeSpec := { name := "headerBlank", fn := fun _ => fun
  | [d1, d2, d3] => { results := [.lit (.bool false)], args := [d1, d2, d3] }
  | _ => none }
def HeaderBlankWrongFalsely : Prop := headerBlankRow.holds Tryd.pinned (OpenSpec.ofChange headerBlankWrong)

/- THE SECOND FORM. 'bulk': how many values and letters a reading holds, each counted each time it is reached (what is shared counts as often as it is met; a slice's spare places count too). A statement '..UptoSaid' is the law's where the arguments, and the package variables that the reading takes, are together of bulk at most 1048576: NARROWER than '..Said'. Prove '..Said' where nothing that the law and all that it calls make is longer than what came in: it says more and counts as full. Else prove '..UptoSaid'. A law counts once. -/
mutual
def uptoBulk {H : Type} : DataW H → Nat
  | .lit (.string bytes) => bytes.length + 1
  | .lit _ => 1
  | .nil => 1
  | .ptr d => uptoBulk d + 1
  | .slice elems spare => uptoBulkAll elems + uptoBulkAll spare + 1
  | .agg parts => uptoBulkAll parts + 1
  | .iface _ d => uptoBulk d + 1
  | .map entries => uptoBulkEntries entries + 1
  | .held _ => 1
def uptoBulkAll {H : Type} : List (DataW H) → Nat
  | [] => 0
  | d :: r => uptoBulk d + uptoBulkAll r
def uptoBulkEntries {H : Type} : List (Lit × DataW H) → Nat
  | [] => 0
  | x :: r => uptoBulkEntry x + uptoBulkEntries r
def uptoBulkEntry {H : Type} : Lit × DataW H → Nat
  | (.string bytes, d) => bytes.length + uptoBulk d + 1
  | (_, d) => uptoBulk d + 1
 end
def uptoSmall : (H : Type) → List (DataW H) → Bool := fun _ ds => decide (uptoBulkAll ds ≤ 1048576)
def OpenSpec.upto (s : _root_.Go.ChangeSpec) : _root_.Go.OpenSpec := { _root_.Go.OpenSpec.ofChange s with cond := some uptoSmall }

/-- 'seichelaw11.GolexIs', WHERE WHAT IT READS IS OF BULK AT MOST 1048576: true; the input reads as it did. -/
def golexIsUptoRow : OpenClaim := { program := "ytejogobhnbjpdaadoor", sum := "f9aafd2baaae0b1ad806edea8aa54fd0866cc4ba11eea3798ad373fdebda31f0", func := "seiche/seichelaw11.GolexIs", spec := "golexIs", inPlace := ["internal/bytealg.IndexByteString", "internal/bytealg.IndexString"], named := ["unicode/utf8.first", "unicode/utf8.acceptRanges", "internal/bytealg.MaxLen"], apart := false, laid := [("unicode/utf8.acceptRanges", laid_unicode_utf8_acceptRanges), ("unicode/utf8.first", laid_unicode_utf8_first)], narrowed := true }
def GolexIsUptoSaid : Prop := golexIsUptoRow.holds Tryd.pinned (OpenSpec.upto golexIsSpec)

/-- 'seichelaw11.GolexCovers', WHERE WHAT IT READS IS OF BULK AT MOST 1048576: true; the input reads as it did. -/
def golexCoversUptoRow : OpenClaim := { program := "ytejogobhnbjpdaadoor", sum := "f9aafd2baaae0b1ad806edea8aa54fd0866cc4ba11eea3798ad373fdebda31f0", func := "seiche/seichelaw11.GolexCovers", spec := "golexCovers", inPlace := ["internal/bytealg.IndexByteString", "internal/bytealg.IndexString"], named := ["unicode/utf8.first", "unicode/utf8.acceptRanges", "internal/bytealg.MaxLen"], apart := false, laid := [("unicode/utf8.acceptRanges", laid_unicode_utf8_acceptRanges), ("unicode/utf8.first", laid_unicode_utf8_first)], narrowed := true }
def GolexCoversUptoSaid : Prop := golexCoversUptoRow.holds Tryd.pinned (OpenSpec.upto golexCoversSpec)

/-- 'seichelaw11.GolexParts', WHERE WHAT IT READS IS OF BULK AT MOST 1048576: true; the input reads as it did. -/
def golexPartsUptoRow : OpenClaim := { program := "ytejogobhnbjpdaadoor", sum := "f9aafd2baaae0b1ad806edea8aa54fd0866cc4ba11eea3798ad373fdebda31f0", func := "seiche/seichelaw11.GolexParts", spec := "golexParts", inPlace := ["internal/bytealg.IndexByteString", "internal/bytealg.IndexString"], named := ["unicode/utf8.first", "unicode/utf8.acceptRanges", "internal/bytealg.MaxLen"], apart := false, laid := [("unicode/utf8.acceptRanges", laid_unicode_utf8_acceptRanges), ("unicode/utf8.first", laid_unicode_utf8_first)], narrowed := true }
def GolexPartsUptoSaid : Prop := golexPartsUptoRow.holds Tryd.pinned (OpenSpec.upto golexPartsSpec)

/-- 'seichelaw11.GolexBegins', WHERE WHAT IT READS IS OF BULK AT MOST 1048576: true; the input reads as it did. -/
def golexBeginsUptoRow : OpenClaim := { program := "ytejogobhnbjpdaadoor", sum := "f9aafd2baaae0b1ad806edea8aa54fd0866cc4ba11eea3798ad373fdebda31f0", func := "seiche/seichelaw11.GolexBegins", spec := "golexBegins", inPlace := ["internal/bytealg.IndexByteString", "internal/bytealg.IndexString"], named := ["unicode/utf8.first", "unicode/utf8.acceptRanges", "internal/bytealg.MaxLen"], apart := false, laid := [("unicode/utf8.acceptRanges", laid_unicode_utf8_acceptRanges), ("unicode/utf8.first", laid_unicode_utf8_first)], narrowed := true }
def GolexBeginsUptoSaid : Prop := golexBeginsUptoRow.holds Tryd.pinned (OpenSpec.upto golexBeginsSpec)

/-- 'seichelaw11.GolexSemis', WHERE WHAT IT READS IS OF BULK AT MOST 1048576: true; the input reads as it did. -/
def golexSemisUptoRow : OpenClaim := { program := "ytejogobhnbjpdaadoor", sum := "f9aafd2baaae0b1ad806edea8aa54fd0866cc4ba11eea3798ad373fdebda31f0", func := "seiche/seichelaw11.GolexSemis", spec := "golexSemis", inPlace := ["internal/bytealg.IndexByteString", "internal/bytealg.IndexString"], named := ["unicode/utf8.first", "unicode/utf8.acceptRanges", "internal/bytealg.MaxLen"], apart := false, laid := [("unicode/utf8.acceptRanges", laid_unicode_utf8_acceptRanges), ("unicode/utf8.first", laid_unicode_utf8_first)], narrowed := true }
def GolexSemisUptoSaid : Prop := golexSemisUptoRow.holds Tryd.pinned (OpenSpec.upto golexSemisSpec)

/-- 'seichelaw11.GolexAlone', WHERE WHAT IT READS IS OF BULK AT MOST 1048576: true; the input reads as it did. -/
def golexAloneUptoRow : OpenClaim := { program := "ytejogobhnbjpdaadoor", sum := "f9aafd2baaae0b1ad806edea8aa54fd0866cc4ba11eea3798ad373fdebda31f0", func := "seiche/seichelaw11.GolexAlone", spec := "golexAlone", inPlace := ["internal/bytealg.IndexByteString", "internal/bytealg.IndexString"], named := ["unicode/utf8.first", "unicode/utf8.acceptRanges", "internal/bytealg.MaxLen"], apart := false, laid := [("unicode/utf8.acceptRanges", laid_unicode_utf8_acceptRanges), ("unicode/utf8.first", laid_unicode_utf8_first)], narrowed := true }
def GolexAloneUptoSaid : Prop := golexAloneUptoRow.holds Tryd.pinned (OpenSpec.upto golexAloneSpec)

/-- 'seichelaw12.HeaderMakes', WHERE WHAT IT READS IS OF BULK AT MOST 1048576: true; the input reads as it did. -/
def headerMakesUptoRow : OpenClaim := { program := "ytejogobhnbjpdaadoor", sum := "f9aafd2baaae0b1ad806edea8aa54fd0866cc4ba11eea3798ad373fdebda31f0", func := "seiche/seichelaw12.HeaderMakes", spec := "headerMakes", inPlace := ["internal/bytealg.IndexByteString", "internal/bytealg.IndexString", "internal/abi.NoEscape", "internal/bytealg.MakeNoZero"], named := ["unicode/utf8.first", "unicode/utf8.acceptRanges", "internal/bytealg.MaxLen"], apart := false, laid := [("unicode/utf8.acceptRanges", laid_unicode_utf8_acceptRanges), ("unicode/utf8.first", laid_unicode_utf8_first)], narrowed := true }
def HeaderMakesUptoSaid : Prop := headerMakesUptoRow.holds Tryd.pinned (OpenSpec.upto headerMakesSpec)

/-- 'seichelaw12.HeaderMarks', WHERE WHAT IT READS IS OF BULK AT MOST 1048576: true; the input reads as it did. -/
def headerMarksUptoRow : OpenClaim := { program := "ytejogobhnbjpdaadoor", sum := "f9aafd2baaae0b1ad806edea8aa54fd0866cc4ba11eea3798ad373fdebda31f0", func := "seiche/seichelaw12.HeaderMarks", spec := "headerMarks", inPlace := ["internal/bytealg.IndexByteString", "internal/bytealg.IndexString", "internal/abi.NoEscape", "internal/bytealg.MakeNoZero"], named := ["unicode/utf8.first", "unicode/utf8.acceptRanges", "internal/bytealg.MaxLen"], apart := false, laid := [("unicode/utf8.acceptRanges", laid_unicode_utf8_acceptRanges), ("unicode/utf8.first", laid_unicode_utf8_first)], narrowed := true }
def HeaderMarksUptoSaid : Prop := headerMarksUptoRow.holds Tryd.pinned (OpenSpec.upto headerMarksSpec)

/-- 'seichelaw12.HeaderBlank', WHERE WHAT IT READS IS OF BULK AT MOST 1048576: true; the input reads as it did. -/
def headerBlankUptoRow : OpenClaim := { program := "ytejogobhnbjpdaadoor", sum := "f9aafd2baaae0b1ad806edea8aa54fd0866cc4ba11eea3798ad373fdebda31f0", func := "seiche/seichelaw12.HeaderBlank", spec := "headerBlank", inPlace := ["internal/bytealg.IndexByteString", "internal/bytealg.IndexString", "internal/abi.NoEscape", "internal/bytealg.MakeNoZero"], named := ["unicode/utf8.first", "unicode/utf8.acceptRanges", "internal/bytealg.MaxLen"], apart := false, laid := [("unicode/utf8.acceptRanges", laid_unicode_utf8_acceptRanges), ("unicode/utf8.first", laid_unicode_utf8_first)], narrowed := true }
def HeaderBlankUptoSaid : Prop := headerBlankUptoRow.holds Tryd.pinned (OpenSpec.upto headerBlankSpec)

end Rows
end Go.Proofs.YtejogobhnbjpdaaDoor
