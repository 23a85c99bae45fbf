/-
  NARROWER THAN 'FOR EVERY INPUT', by the rows' own cells (each row's printed sentence says how): SuffixKnows: laid · SuffixOf: laid · SuffixTells: laid · SuffixTests: laid.
  DERIVED. THE GIVEN ROWS OF THIS SEAT. 4 by the template 'for every input the law returns true; each argument reads behind the call as it read before'; 0 by the template 'total and deterministic' (their statements: YtlgmnhjdnmjpgaaDoorTotals.lean).
  GIVEN WITH THE SEED: the statements are not yours to turn. If you find one false, say at which input.
  Laid BY PROGRAM, IN A SANDBOX (cutbox-rows.mjs): the forced cells as the released guide's own fill.sh prints them over the translation 7829f51529ad0162… (all of the seat's roots in one cut). By AI agents, Wed Nov 11 2026. No macro, syntax, notation, axiom, sorry.
-/
import Derived.Test.YtlgmnhjdnmjpgaaDoorChecked
import GoSem.PinnedTables
import GoSem.Claim
import GoSem.ClaimJoined
import GoSem.ClaimMapViews
import Derived.JoinedTies
import Derived.KernelRfl
namespace Go.Proofs.YtlgmnhjdnmjpgaaDoor
/- THE CELL 'sum', in the pinned program and in every row, IS THE sha256 OF THE DUMP (.gsa) THAT YtlgmnhjdnmjpgaaDoorProg.lean LOADS. Nothing in Lean hashes anything: it is a label: what it is worth is what the hold of that sum in a sandbox is worth. -/
noncomputable def Tryd.pinned : Pinned := { name := "ytlgmnhjdnmjpgaadoor", sum := "7829f51529ad01620a8edbbb096b32dc00f961f546c96f75eb09bd5bcad9cae7", checked := Tryd.checked }
namespace Rows
def none {H : Type} : Left H := { results := [], args := [] }

/- WHAT THE LISTED PACKAGE-LEVEL VARIABLES READ AS WHEN THE CALL BEGINS. Each datum BY PROGRAM (the guide's laid-datum.mjs) off the statement by which the dump's own 'gosem.cut.vars' lays the variable. In a bare row this is a premise. The card (YtlgmnhjdnmjpgaaDoorCards.lean) ties it to the program's text. -/
def laid_unicode_utf8_acceptRanges {H : Type} : DataW H := .agg [.agg [.lit (.int .u8 128), .lit (.int .u8 191)], .agg [.lit (.int .u8 160), .lit (.int .u8 191)], .agg [.lit (.int .u8 128), .lit (.int .u8 159)], .agg [.lit (.int .u8 144), .lit (.int .u8 191)], .agg [.lit (.int .u8 128), .lit (.int .u8 143)], .agg [.lit (.int .u8 0), .lit (.int .u8 0)], .agg [.lit (.int .u8 0), .lit (.int .u8 0)], .agg [.lit (.int .u8 0), .lit (.int .u8 0)], .agg [.lit (.int .u8 0), .lit (.int .u8 0)], .agg [.lit (.int .u8 0), .lit (.int .u8 0)], .agg [.lit (.int .u8 0), .lit (.int .u8 0)], .agg [.lit (.int .u8 0), .lit (.int .u8 0)], .agg [.lit (.int .u8 0), .lit (.int .u8 0)], .agg [.lit (.int .u8 0), .lit (.int .u8 0)], .agg [.lit (.int .u8 0), .lit (.int .u8 0)], .agg [.lit (.int .u8 0), .lit (.int .u8 0)]]
/-- One of Go's own tables, pinned by name: the form's constant. -/
def laid_unicode_utf8_first : DataW Unit := Go.Pinned.utf8First

/-- 'seichelaw15.SuffixKnows': WHATEVER THE INPUT: true; the input reads as it did. -/
def suffixKnowsSpec : ChangeSpec := { name := "suffixKnows", fn := fun _ => fun
  | [d] => { results := [.lit (.bool true)], args := [d] }
  | _ => none }
def suffixKnowsRow : OpenClaim := { program := "ytlgmnhjdnmjpgaadoor", sum := "7829f51529ad01620a8edbbb096b32dc00f961f546c96f75eb09bd5bcad9cae7", func := "seiche/seichelaw15.SuffixKnows", spec := "suffixKnows", inPlace := ["internal/bytealg.CountString", "internal/bytealg.IndexByteString", "internal/bytealg.IndexString"], named := ["unicode/utf8.first", "unicode/utf8.acceptRanges", "internal/bytealg.MaxLen"], apart := false, laid := [("unicode/utf8.acceptRanges", laid_unicode_utf8_acceptRanges), ("unicode/utf8.first", laid_unicode_utf8_first)] }
def SuffixKnowsSaid : Prop := suffixKnowsRow.holds Tryd.pinned (OpenSpec.ofChange suffixKnowsSpec)

/-- ITS FALSE NEIGHBOUR: 'it returns false'. Refute it at one input. -/
def suffixKnowsWrong : ChangeSpec := { name := "suffixKnows", fn := fun _ => fun
  | [d] => { results := [.lit (.bool false)], args := [d] }
  | _ => none }
def SuffixKnowsWrongFalsely : Prop := suffixKnowsRow.holds Tryd.pinned (OpenSpec.ofChange suffixKnowsWrong)

/-- 'seichelaw15.SuffixOf': WHATEVER THE INPUT: true; the input reads as it did. -/
def suffixOfSpec : ChangeSpec := { name := "suffixOf", fn := fun _ => fun
  | [d] => { results := [.lit (.bool true)], args := [d] }
  | _ => none }
def suffixOfRow : OpenClaim := { program := "ytlgmnhjdnmjpgaadoor", sum := "7829f51529ad01620a8edbbb096b32dc00f961f546c96f75eb09bd5bcad9cae7", func := "seiche/seichelaw15.SuffixOf", spec := "suffixOf", inPlace := ["internal/bytealg.CountString", "internal/bytealg.IndexByteString", "internal/bytealg.IndexString"], named := ["unicode/utf8.first", "unicode/utf8.acceptRanges", "internal/bytealg.MaxLen"], apart := false, laid := [("unicode/utf8.acceptRanges", laid_unicode_utf8_acceptRanges), ("unicode/utf8.first", laid_unicode_utf8_first)] }
def SuffixOfSaid : Prop := suffixOfRow.holds Tryd.pinned (OpenSpec.ofChange suffixOfSpec)

/-- ITS FALSE NEIGHBOUR: 'it returns false'. Refute it at one input. -/
def suffixOfWrong : ChangeSpec := { name := "suffixOf", fn := fun _ => fun
  | [d] => { results := [.lit (.bool false)], args := [d] }
  | _ => none }
def SuffixOfWrongFalsely : Prop := suffixOfRow.holds Tryd.pinned (OpenSpec.ofChange suffixOfWrong)

/-- 'seichelaw15.SuffixTells': WHATEVER THE INPUT: true; the input reads as it did. -/
def suffixTellsSpec : ChangeSpec := { name := "suffixTells", fn := fun _ => fun
  | [d1, d2, d3, d4] => { results := [.lit (.bool true)], args := [d1, d2, d3, d4] }
  | _ => none }
def suffixTellsRow : OpenClaim := { program := "ytlgmnhjdnmjpgaadoor", sum := "7829f51529ad01620a8edbbb096b32dc00f961f546c96f75eb09bd5bcad9cae7", func := "seiche/seichelaw15.SuffixTells", spec := "suffixTells", inPlace := ["internal/bytealg.CountString", "internal/bytealg.IndexByteString", "internal/bytealg.IndexString"], named := ["unicode/utf8.first", "unicode/utf8.acceptRanges", "internal/bytealg.MaxLen"], apart := false, laid := [("unicode/utf8.acceptRanges", laid_unicode_utf8_acceptRanges), ("unicode/utf8.first", laid_unicode_utf8_first)] }
def SuffixTellsSaid : Prop := suffixTellsRow.holds Tryd.pinned (OpenSpec.ofChange suffixTellsSpec)

/-- ITS FALSE NEIGHBOUR: 'it returns false'. Refute it at one input. -/
def suffixTellsWrong : ChangeSpec := { name := "suffixTells", fn := fun _ => fun
  | [d1, d2, d3, d4] => { results := [.lit (.bool false)], args := [d1, d2, d3, d4] }
  | _ => none }
def SuffixTellsWrongFalsely : Prop := suffixTellsRow.holds Tryd.pinned (OpenSpec.ofChange suffixTellsWrong)

/-- 'seichelaw15.SuffixTests': WHATEVER THE INPUT: true; the input reads as it did. -/
def suffixTestsSpec : ChangeSpec := { name := "suffixTests", fn := fun _ => fun
  | [d] => { results := [.lit (.bool true)], args := [d] }
  | _ => none }
def suffixTestsRow : OpenClaim := { program := "ytlgmnhjdnmjpgaadoor", sum := "7829f51529ad01620a8edbbb096b32dc00f961f546c96f75eb09bd5bcad9cae7", func := "seiche/seichelaw15.SuffixTests", spec := "suffixTests", inPlace := ["internal/bytealg.CountString", "internal/bytealg.IndexByteString", "internal/bytealg.IndexString"], named := ["unicode/utf8.first", "unicode/utf8.acceptRanges", "internal/bytealg.MaxLen"], apart := false, laid := [("unicode/utf8.acceptRanges", laid_unicode_utf8_acceptRanges), ("unicode/utf8.first", laid_unicode_utf8_first)] }
def SuffixTestsSaid : Prop := suffixTestsRow.holds Tryd.pinned (OpenSpec.ofChange suffixTestsSpec)

/-- ITS FALSE NEIGHBOUR: 'it returns false'. Refute it at one input. -/
def suffixTestsWrong : ChangeSpec := { name := "suffixTests", fn := fun _ => fun
  | [d] => { results := [.lit (.bool false)], args := [d] }
  | _ => none }
def SuffixTestsWrongFalsely : Prop := suffixTestsRow.holds Tryd.pinned (OpenSpec.ofChange suffixTestsWrong)

/- THE SECOND FORM. 'bulk': how many values and letters a reading holds, each counted each time it is reached (what is shared counts as often as it is met; a slice's spare places count too). A statement '..UptoSaid' is the law's where the arguments, and the package variables that the reading takes, are together of bulk at most 1048576: NARROWER than '..Said'. Prove '..Said' where nothing that the law and all that it calls make is longer than what came in: it says more and counts as full. Else prove '..UptoSaid'. A law counts once. -/
mutual
def uptoBulk {H : Type} : DataW H → Nat
  | .lit (.string bytes) => bytes.length + 1
  | .lit _ => 1
  | .nil => 1
  | .ptr d => uptoBulk d + 1
  | .slice elems spare => uptoBulkAll elems + uptoBulkAll spare + 1
  | .agg parts => uptoBulkAll parts + 1
  | .iface _ d => uptoBulk d + 1
  | .map entries => uptoBulkEntries entries + 1
  | .held _ => 1
def uptoBulkAll {H : Type} : List (DataW H) → Nat
  | [] => 0
  | d :: r => uptoBulk d + uptoBulkAll r
def uptoBulkEntries {H : Type} : List (Lit × DataW H) → Nat
  | [] => 0
  | x :: r => uptoBulkEntry x + uptoBulkEntries r
def uptoBulkEntry {H : Type} : Lit × DataW H → Nat
  | (.string bytes, d) => bytes.length + uptoBulk d + 1
  | (_, d) => uptoBulk d + 1
 end
def uptoSmall : (H : Type) → List (DataW H) → Bool := fun _ ds => decide (uptoBulkAll ds ≤ 1048576)
def OpenSpec.upto (s : _root_.Go.ChangeSpec) : _root_.Go.OpenSpec := { _root_.Go.OpenSpec.ofChange s with cond := some uptoSmall }

/-- 'seichelaw15.SuffixKnows', WHERE WHAT IT READS IS OF BULK AT MOST 1048576: true; the input reads as it did. -/
def suffixKnowsUptoRow : OpenClaim := { program := "ytlgmnhjdnmjpgaadoor", sum := "7829f51529ad01620a8edbbb096b32dc00f961f546c96f75eb09bd5bcad9cae7", func := "seiche/seichelaw15.SuffixKnows", spec := "suffixKnows", inPlace := ["internal/bytealg.CountString", "internal/bytealg.IndexByteString", "internal/bytealg.IndexString"], named := ["unicode/utf8.first", "unicode/utf8.acceptRanges", "internal/bytealg.MaxLen"], apart := false, laid := [("unicode/utf8.acceptRanges", laid_unicode_utf8_acceptRanges), ("unicode/utf8.first", laid_unicode_utf8_first)], narrowed := true }
def SuffixKnowsUptoSaid : Prop := suffixKnowsUptoRow.holds Tryd.pinned (OpenSpec.upto suffixKnowsSpec)

/-- 'seichelaw15.SuffixOf', WHERE WHAT IT READS IS OF BULK AT MOST 1048576: true; the input reads as it did. -/
def suffixOfUptoRow : OpenClaim := { program := "ytlgmnhjdnmjpgaadoor", sum := "7829f51529ad01620a8edbbb096b32dc00f961f546c96f75eb09bd5bcad9cae7", func := "seiche/seichelaw15.SuffixOf", spec := "suffixOf", inPlace := ["internal/bytealg.CountString", "internal/bytealg.IndexByteString", "internal/bytealg.IndexString"], named := ["unicode/utf8.first", "unicode/utf8.acceptRanges", "internal/bytealg.MaxLen"], apart := false, laid := [("unicode/utf8.acceptRanges", laid_unicode_utf8_acceptRanges), ("unicode/utf8.first", laid_unicode_utf8_first)], narrowed := true }
def SuffixOfUptoSaid : Prop := suffixOfUptoRow.holds Tryd.pinned (OpenSpec.upto suffixOfSpec)

/-- 'seichelaw15.SuffixTells', WHERE WHAT IT READS IS OF BULK AT MOST 1048576: true; the input reads as it did. -/
def suffixTellsUptoRow : OpenClaim := { program := "ytlgmnhjdnmjpgaadoor", sum := "7829f51529ad01620a8edbbb096b32dc00f961f546c96f75eb09bd5bcad9cae7", func := "seiche/seichelaw15.SuffixTells", spec := "suffixTells", inPlace := ["internal/bytealg.CountString", "internal/bytealg.IndexByteString", "internal/bytealg.IndexString"], named := ["unicode/utf8.first", "unicode/utf8.acceptRanges", "internal/bytealg.MaxLen"], apart := false, laid := [("unicode/utf8.acceptRanges", laid_unicode_utf8_acceptRanges), ("unicode/utf8.first", laid_unicode_utf8_first)], narrowed := true }
def SuffixTellsUptoSaid : Prop := suffixTellsUptoRow.holds Tryd.pinned (OpenSpec.upto suffixTellsSpec)

/-- 'seichelaw15.SuffixTests', WHERE WHAT IT READS IS OF BULK AT MOST 1048576: true; the input reads as it did. -/
def suffixTestsUptoRow : OpenClaim := { program := "ytlgmnhjdnmjpgaadoor", sum := "7829f51529ad01620a8edbbb096b32dc00f961f546c96f75eb09bd5bcad9cae7", func := "seiche/seichelaw15.SuffixTests", spec := "suffixTests", inPlace := ["internal/bytealg.CountString", "internal/bytealg.IndexByteString", "internal/bytealg.IndexString"], named := ["unicode/utf8.first", "unicode/utf8.acceptRanges", "internal/bytealg.MaxLen"], apart := false, laid := [("unicode/utf8.acceptRanges", laid_unicode_utf8_acceptRanges), ("unicode/utf8.first", laid_unicode_utf8_first)], narrowed := true }
def SuffixTestsUptoSaid : Prop := suffixTestsUptoRow.holds Tryd.pinned (OpenSpec.upto suffixTestsSpec)

end Rows
end Go.Proofs.YtlgmnhjdnmjpgaaDoor
