/-
  NARROWER THAN 'FOR EVERY INPUT', by the rows' own cells (each row's printed sentence says how): PlusLines: laid · PlusParses: laid · PlusMeans: laid · PlusOne: laid · PlusBlank: laid.
  DERIVED. THE GIVEN ROWS OF THIS SEAT. 5 by the template 'for every input the law returns true; each argument reads behind the call as it read before'; 0 by the template 'total and deterministic' (their statements: YtfkmijdpcenieaaDoorTotals.lean).
  GIVEN WITH THE SEED: the statements are not yours to turn. If you find one false, say at which input.
  Laid BY PROGRAM, IN A SANDBOX (cutbox-rows.mjs): the forced cells as the released guide's own fill.sh prints them over the translation 7a39cdcaa4aa36bb… (all of the seat's roots in one cut). By AI agents, Wed Nov 11 2026. No macro, syntax, notation, axiom, sorry.
-/
import Derived.Test.YtfkmijdpcenieaaDoorChecked
import GoSem.PinnedTables
import GoSem.Claim
import GoSem.ClaimJoined
import GoSem.ClaimMapViews
import Derived.JoinedTies
import Derived.KernelRfl
namespace Go.Proofs.YtfkmijdpcenieaaDoor
/- THE CELL 'sum', in the pinned program and in every row, IS THE sha256 OF THE DUMP (.gsa) THAT YtfkmijdpcenieaaDoorProg.lean LOADS. Nothing in Lean hashes anything: it is a label: what it is worth is what the hold of that sum in a sandbox is worth. -/
noncomputable def Tryd.pinned : Pinned := { name := "ytfkmijdpcenieaadoor", sum := "7a39cdcaa4aa36bb9b0b5dd278872d84da20d97ef5bdee8dac1140dda544ec5f", checked := Tryd.checked }
namespace Rows
def none {H : Type} : Left H := { results := [], args := [] }

/- WHAT THE LISTED PACKAGE-LEVEL VARIABLES READ AS WHEN THE CALL BEGINS. Each datum BY PROGRAM (the guide's laid-datum.mjs) off the statement by which the dump's own 'gosem.cut.vars' lays the variable. In a bare row this is a premise. The card (YtfkmijdpcenieaaDoorCards.lean) ties it to the program's text. -/
def laid_unicode_utf8_acceptRanges {H : Type} : DataW H := .agg [.agg [.lit (.int .u8 128), .lit (.int .u8 191)], .agg [.lit (.int .u8 160), .lit (.int .u8 191)], .agg [.lit (.int .u8 128), .lit (.int .u8 159)], .agg [.lit (.int .u8 144), .lit (.int .u8 191)], .agg [.lit (.int .u8 128), .lit (.int .u8 143)], .agg [.lit (.int .u8 0), .lit (.int .u8 0)], .agg [.lit (.int .u8 0), .lit (.int .u8 0)], .agg [.lit (.int .u8 0), .lit (.int .u8 0)], .agg [.lit (.int .u8 0), .lit (.int .u8 0)], .agg [.lit (.int .u8 0), .lit (.int .u8 0)], .agg [.lit (.int .u8 0), .lit (.int .u8 0)], .agg [.lit (.int .u8 0), .lit (.int .u8 0)], .agg [.lit (.int .u8 0), .lit (.int .u8 0)], .agg [.lit (.int .u8 0), .lit (.int .u8 0)], .agg [.lit (.int .u8 0), .lit (.int .u8 0)], .agg [.lit (.int .u8 0), .lit (.int .u8 0)]]
/-- One of Go's own tables, pinned by name: the form's constant. -/
def laid_unicode_utf8_first : DataW Unit := Go.Pinned.utf8First

/-- 'seichelaw14.PlusLines': WHATEVER THE INPUT: true; the input reads as it did. -/
def plusLinesSpec : ChangeSpec := { name := "plusLines", fn := fun _ => fun
  | [d1, d2] => { results := [.lit (.bool true)], args := [d1, d2] }
  | _ => none }
def plusLinesRow : OpenClaim := { program := "ytfkmijdpcenieaadoor", sum := "7a39cdcaa4aa36bb9b0b5dd278872d84da20d97ef5bdee8dac1140dda544ec5f", func := "seiche/seichelaw14.PlusLines", spec := "plusLines", inPlace := ["internal/abi.NoEscape", "internal/bytealg.MakeNoZero", "internal/bytealg.CountString", "internal/bytealg.IndexByteString", "internal/bytealg.IndexString"], unfollowed := true, recurses := true, named := ["unicode/utf8.first", "unicode/utf8.acceptRanges", "internal/bytealg.MaxLen"], apart := false, laid := [("unicode/utf8.acceptRanges", laid_unicode_utf8_acceptRanges), ("unicode/utf8.first", laid_unicode_utf8_first)] }
def PlusLinesSaid : Prop := plusLinesRow.holds Tryd.pinned (OpenSpec.ofChange plusLinesSpec)

/-- ITS FALSE NEIGHBOUR: 'it returns false'. Refute it at one input. -/
def plusLinesWrong : ChangeSpec := { name := "plusLines", fn := fun _ => fun
  | [d1, d2] => { results := [.lit (.bool false)], args := [d1, d2] }
  | _ => none }
def PlusLinesWrongFalsely : Prop := plusLinesRow.holds Tryd.pinned (OpenSpec.ofChange plusLinesWrong)

/-- 'seichelaw14.PlusParses': WHATEVER THE INPUT: true; the input reads as it did. -/
def plusParsesSpec : ChangeSpec := { name := "plusParses", fn := fun _ => fun
  | [d] => { results := [.lit (.bool true)], args := [d] }
  | _ => none }
def plusParsesRow : OpenClaim := { program := "ytfkmijdpcenieaadoor", sum := "7a39cdcaa4aa36bb9b0b5dd278872d84da20d97ef5bdee8dac1140dda544ec5f", func := "seiche/seichelaw14.PlusParses", spec := "plusParses", inPlace := ["internal/abi.NoEscape", "internal/bytealg.MakeNoZero", "internal/bytealg.CountString", "internal/bytealg.IndexByteString", "internal/bytealg.IndexString"], unfollowed := true, recurses := true, named := ["unicode/utf8.first", "unicode/utf8.acceptRanges", "internal/bytealg.MaxLen"], apart := false, laid := [("unicode/utf8.acceptRanges", laid_unicode_utf8_acceptRanges), ("unicode/utf8.first", laid_unicode_utf8_first)] }
def PlusParsesSaid : Prop := plusParsesRow.holds Tryd.pinned (OpenSpec.ofChange plusParsesSpec)

/-- ITS FALSE NEIGHBOUR: 'it returns false'. Refute it at one input. -/
def plusParsesWrong : ChangeSpec := { name := "plusParses", fn := fun _ => fun
  | [d] => { results := [.lit (.bool false)], args := [d] }
  | _ => none }
def PlusParsesWrongFalsely : Prop := plusParsesRow.holds Tryd.pinned (OpenSpec.ofChange plusParsesWrong)

/-- 'seichelaw14.PlusMeans': WHATEVER THE INPUT: true; the input reads as it did. -/
def plusMeansSpec : ChangeSpec := { name := "plusMeans", fn := fun _ => fun
  | [d1, d2] => { results := [.lit (.bool true)], args := [d1, d2] }
  | _ => none }
def plusMeansRow : OpenClaim := { program := "ytfkmijdpcenieaadoor", sum := "7a39cdcaa4aa36bb9b0b5dd278872d84da20d97ef5bdee8dac1140dda544ec5f", func := "seiche/seichelaw14.PlusMeans", spec := "plusMeans", inPlace := ["internal/abi.NoEscape", "internal/bytealg.MakeNoZero", "internal/bytealg.CountString", "internal/bytealg.IndexByteString", "internal/bytealg.IndexString"], unfollowed := true, recurses := true, named := ["unicode/utf8.first", "unicode/utf8.acceptRanges", "internal/bytealg.MaxLen"], apart := false, laid := [("unicode/utf8.acceptRanges", laid_unicode_utf8_acceptRanges), ("unicode/utf8.first", laid_unicode_utf8_first)] }
def PlusMeansSaid : Prop := plusMeansRow.holds Tryd.pinned (OpenSpec.ofChange plusMeansSpec)

/-- ITS FALSE NEIGHBOUR: 'it returns false'. Refute it at one input. -/
def plusMeansWrong : ChangeSpec := { name := "plusMeans", fn := fun _ => fun
  | [d1, d2] => { results := [.lit (.bool false)], args := [d1, d2] }
  | _ => none }
def PlusMeansWrongFalsely : Prop := plusMeansRow.holds Tryd.pinned (OpenSpec.ofChange plusMeansWrong)

/-- 'seichelaw14.PlusOne': WHATEVER THE INPUT: true; the input reads as it did. -/
def plusOneSpec : ChangeSpec := { name := "plusOne", fn := fun _ => fun
  | [d1, d2] => { results := [.lit (.bool true)], args := [d1, d2] }
  | _ => none }
def plusOneRow : OpenClaim := { program := "ytfkmijdpcenieaadoor", sum := "7a39cdcaa4aa36bb9b0b5dd278872d84da20d97ef5bdee8dac1140dda544ec5f", func := "seiche/seichelaw14.PlusOne", spec := "plusOne", inPlace := ["internal/abi.NoEscape", "internal/bytealg.MakeNoZero", "internal/bytealg.CountString", "internal/bytealg.IndexByteString", "internal/bytealg.IndexString"], unfollowed := true, recurses := true, named := ["unicode/utf8.first", "unicode/utf8.acceptRanges", "internal/bytealg.MaxLen"], apart := false, laid := [("unicode/utf8.acceptRanges", laid_unicode_utf8_acceptRanges), ("unicode/utf8.first", laid_unicode_utf8_first)] }
def PlusOneSaid : Prop := plusOneRow.holds Tryd.pinned (OpenSpec.ofChange plusOneSpec)

/-- ITS FALSE NEIGHBOUR: 'it returns false'. Refute it at one input. -/
def plusOneWrong : ChangeSpec := { name := "plusOne", fn := fun _ => fun
  | [d1, d2] => { results := [.lit (.bool false)], args := [d1, d2] }
  | _ => none }
def PlusOneWrongFalsely : Prop := plusOneRow.holds Tryd.pinned (OpenSpec.ofChange plusOneWrong)

/-- 'seichelaw14.PlusBlank': WHATEVER THE INPUT: true; the input reads as it did. -/
def plusBlankSpec : ChangeSpec := { name := "plusBlank", fn := fun _ => fun
  | [d1, d2] => { results := [.lit (.bool true)], args := [d1, d2] }
  | _ => none }
def plusBlankRow : OpenClaim := { program := "ytfkmijdpcenieaadoor", sum := "7a39cdcaa4aa36bb9b0b5dd278872d84da20d97ef5bdee8dac1140dda544ec5f", func := "seiche/seichelaw14.PlusBlank", spec := "plusBlank", inPlace := ["internal/abi.NoEscape", "internal/bytealg.MakeNoZero", "internal/bytealg.CountString", "internal/bytealg.IndexByteString", "internal/bytealg.IndexString"], unfollowed := true, recurses := true, named := ["unicode/utf8.first", "unicode/utf8.acceptRanges", "internal/bytealg.MaxLen"], apart := false, laid := [("unicode/utf8.acceptRanges", laid_unicode_utf8_acceptRanges), ("unicode/utf8.first", laid_unicode_utf8_first)] }
def PlusBlankSaid : Prop := plusBlankRow.holds Tryd.pinned (OpenSpec.ofChange plusBlankSpec)

/-- ITS FALSE NEIGHBOUR: 'it returns false'. Refute it at one input. -/
def plusBlankWrong : ChangeSpec := { name := "plusBlank", fn := fun _ => fun
  | [d1, d2] => { results := [.lit (.bool false)], args := [d1, d2] }
  | _ => none }
def PlusBlankWrongFalsely : Prop := plusBlankRow.holds Tryd.pinned (OpenSpec.ofChange plusBlankWrong)

/- THE SECOND FORM. 'bulk': how many values and letters a reading holds, each counted each time it is reached (what is shared counts as often as it is met; a slice's spare places count too). A statement '..UptoSaid' is the law's where the arguments, and the package variables that the reading takes, are together of bulk at most 1048576: NARROWER than '..Said'. Prove '..Said' where nothing that the law and all that it calls make is longer than what came in: it says more and counts as full. Else prove '..UptoSaid'. A law counts once. -/
mutual
def uptoBulk {H : Type} : DataW H → Nat
  | .lit (.string bytes) => bytes.length + 1
  | .lit _ => 1
  | .nil => 1
  | .ptr d => uptoBulk d + 1
  | .slice elems spare => uptoBulkAll elems + uptoBulkAll spare + 1
  | .agg parts => uptoBulkAll parts + 1
  | .iface _ d => uptoBulk d + 1
  | .map entries => uptoBulkEntries entries + 1
  | .held _ => 1
def uptoBulkAll {H : Type} : List (DataW H) → Nat
  | [] => 0
  | d :: r => uptoBulk d + uptoBulkAll r
def uptoBulkEntries {H : Type} : List (Lit × DataW H) → Nat
  | [] => 0
  | x :: r => uptoBulkEntry x + uptoBulkEntries r
def uptoBulkEntry {H : Type} : Lit × DataW H → Nat
  | (.string bytes, d) => bytes.length + uptoBulk d + 1
  | (_, d) => uptoBulk d + 1
 end
def uptoSmall : (H : Type) → List (DataW H) → Bool := fun _ ds => decide (uptoBulkAll ds ≤ 1048576)
def OpenSpec.upto (s : _root_.Go.ChangeSpec) : _root_.Go.OpenSpec := { _root_.Go.OpenSpec.ofChange s with cond := some uptoSmall }

/-- 'seichelaw14.PlusLines', WHERE WHAT IT READS IS OF BULK AT MOST 1048576: true; the input reads as it did. -/
def plusLinesUptoRow : OpenClaim := { program := "ytfkmijdpcenieaadoor", sum := "7a39cdcaa4aa36bb9b0b5dd278872d84da20d97ef5bdee8dac1140dda544ec5f", func := "seiche/seichelaw14.PlusLines", spec := "plusLines", inPlace := ["internal/abi.NoEscape", "internal/bytealg.MakeNoZero", "internal/bytealg.CountString", "internal/bytealg.IndexByteString", "internal/bytealg.IndexString"], unfollowed := true, recurses := true, named := ["unicode/utf8.first", "unicode/utf8.acceptRanges", "internal/bytealg.MaxLen"], apart := false, laid := [("unicode/utf8.acceptRanges", laid_unicode_utf8_acceptRanges), ("unicode/utf8.first", laid_unicode_utf8_first)], narrowed := true }
def PlusLinesUptoSaid : Prop := plusLinesUptoRow.holds Tryd.pinned (OpenSpec.upto plusLinesSpec)

/-- 'seichelaw14.PlusParses', WHERE WHAT IT READS IS OF BULK AT MOST 1048576: true; the input reads as it did. -/
def plusParsesUptoRow : OpenClaim := { program := "ytfkmijdpcenieaadoor", sum := "7a39cdcaa4aa36bb9b0b5dd278872d84da20d97ef5bdee8dac1140dda544ec5f", func := "seiche/seichelaw14.PlusParses", spec := "plusParses", inPlace := ["internal/abi.NoEscape", "internal/bytealg.MakeNoZero", "internal/bytealg.CountString", "internal/bytealg.IndexByteString", "internal/bytealg.IndexString"], unfollowed := true, recurses := true, named := ["unicode/utf8.first", "unicode/utf8.acceptRanges", "internal/bytealg.MaxLen"], apart := false, laid := [("unicode/utf8.acceptRanges", laid_unicode_utf8_acceptRanges), ("unicode/utf8.first", laid_unicode_utf8_first)], narrowed := true }
def PlusParsesUptoSaid : Prop := plusParsesUptoRow.holds Tryd.pinned (OpenSpec.upto plusParsesSpec)

/-- 'seichelaw14.PlusMeans', WHERE WHAT IT READS IS OF BULK AT MOST 1048576: true; the input reads as it did. -/
def plusMeansUptoRow : OpenClaim := { program := "ytfkmijdpcenieaadoor", sum := "7a39cdcaa4aa36bb9b0b5dd278872d84da20d97ef5bdee8dac1140dda544ec5f", func := "seiche/seichelaw14.PlusMeans", spec := "plusMeans", inPlace := ["internal/abi.NoEscape", "internal/bytealg.MakeNoZero", "internal/bytealg.CountString", "internal/bytealg.IndexByteString", "internal/bytealg.IndexString"], unfollowed := true, recurses := true, named := ["unicode/utf8.first", "unicode/utf8.acceptRanges", "internal/bytealg.MaxLen"], apart := false, laid := [("unicode/utf8.acceptRanges", laid_unicode_utf8_acceptRanges), ("unicode/utf8.first", laid_unicode_utf8_first)], narrowed := true }
def PlusMeansUptoSaid : Prop := plusMeansUptoRow.holds Tryd.pinned (OpenSpec.upto plusMeansSpec)

/-- 'seichelaw14.PlusOne', WHERE WHAT IT READS IS OF BULK AT MOST 1048576: true; the input reads as it did. -/
def plusOneUptoRow : OpenClaim := { program := "ytfkmijdpcenieaadoor", sum := "7a39cdcaa4aa36bb9b0b5dd278872d84da20d97ef5bdee8dac1140dda544ec5f", func := "seiche/seichelaw14.PlusOne", spec := "plusOne", inPlace := ["internal/abi.NoEscape", "internal/bytealg.MakeNoZero", "internal/bytealg.CountString", "internal/bytealg.IndexByteString", "internal/bytealg.IndexString"], unfollowed := true, recurses := true, named := ["unicode/utf8.first", "unicode/utf8.acceptRanges", "internal/bytealg.MaxLen"], apart := false, laid := [("unicode/utf8.acceptRanges", laid_unicode_utf8_acceptRanges), ("unicode/utf8.first", laid_unicode_utf8_first)], narrowed := true }
def PlusOneUptoSaid : Prop := plusOneUptoRow.holds Tryd.pinned (OpenSpec.upto plusOneSpec)

/-- 'seichelaw14.PlusBlank', WHERE WHAT IT READS IS OF BULK AT MOST 1048576: true; the input reads as it did. -/
def plusBlankUptoRow : OpenClaim := { program := "ytfkmijdpcenieaadoor", sum := "7a39cdcaa4aa36bb9b0b5dd278872d84da20d97ef5bdee8dac1140dda544ec5f", func := "seiche/seichelaw14.PlusBlank", spec := "plusBlank", inPlace := ["internal/abi.NoEscape", "internal/bytealg.MakeNoZero", "internal/bytealg.CountString", "internal/bytealg.IndexByteString", "internal/bytealg.IndexString"], unfollowed := true, recurses := true, named := ["unicode/utf8.first", "unicode/utf8.acceptRanges", "internal/bytealg.MaxLen"], apart := false, laid := [("unicode/utf8.acceptRanges", laid_unicode_utf8_acceptRanges), ("unicode/utf8.first", laid_unicode_utf8_first)], narrowed := true }
def PlusBlankUptoSaid : Prop := plusBlankUptoRow.holds Tryd.pinned (OpenSpec.upto plusBlankSpec)

end Rows
end Go.Proofs.YtfkmijdpcenieaaDoor
