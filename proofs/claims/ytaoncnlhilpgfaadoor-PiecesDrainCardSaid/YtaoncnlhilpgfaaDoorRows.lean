/-
  NARROWER THAN 'FOR EVERY INPUT', by the rows' own cells (each row's printed sentence says how): PiecesPlays: laid · PiecesText: laid · PiecesDrain: laid · PiecesOwn: laid.
  DERIVED. THE GIVEN ROWS OF THIS SEAT. 4 by the template 'for every input the law returns true; each argument reads behind the call as it read before'; 0 by the template 'total and deterministic' (their statements: YtaoncnlhilpgfaaDoorTotals.lean).
  GIVEN WITH THE SEED: the statements are not yours to turn. If you find one false, say at which input.
  Laid BY PROGRAM, IN A SANDBOX (cutbox-rows.mjs): the forced cells as the released guide's own fill.sh prints them over the translation 1958c644ec5c74ff… (all of the seat's roots in one cut). By AI agents, Wed Nov 11 2026. No macro, syntax, notation, axiom, sorry.
-/
import Derived.Test.YtaoncnlhilpgfaaDoorChecked
import GoSem.PinnedTables
import GoSem.Claim
import GoSem.ClaimJoined
import GoSem.ClaimMapViews
import Derived.JoinedTies
import Derived.KernelRfl
namespace Go.Proofs.YtaoncnlhilpgfaaDoor
/- THE CELL 'sum', in the pinned program and in every row, IS THE sha256 OF THE DUMP (.gsa) THAT YtaoncnlhilpgfaaDoorProg.lean LOADS. Nothing in Lean hashes anything: it is a label: what it is worth is what the hold of that sum in a sandbox is worth. -/
noncomputable def Tryd.pinned : Pinned := { name := "ytaoncnlhilpgfaadoor", sum := "1958c644ec5c74ff20063892c1b5bc4f97317233ccafbf30973f055ccb7ebb02", checked := Tryd.checked }
namespace Rows
def none {H : Type} : Left H := { results := [], args := [] }

/- WHAT THE LISTED PACKAGE-LEVEL VARIABLES READ AS WHEN THE CALL BEGINS. Each datum BY PROGRAM (the guide's laid-datum.mjs) off the statement by which the dump's own 'gosem.cut.vars' lays the variable. In a bare row this is a premise. The card (YtaoncnlhilpgfaaDoorCards.lean) ties it to the program's text. -/
def laid_unicode_utf8_acceptRanges {H : Type} : DataW H := .agg [.agg [.lit (.int .u8 128), .lit (.int .u8 191)], .agg [.lit (.int .u8 160), .lit (.int .u8 191)], .agg [.lit (.int .u8 128), .lit (.int .u8 159)], .agg [.lit (.int .u8 144), .lit (.int .u8 191)], .agg [.lit (.int .u8 128), .lit (.int .u8 143)], .agg [.lit (.int .u8 0), .lit (.int .u8 0)], .agg [.lit (.int .u8 0), .lit (.int .u8 0)], .agg [.lit (.int .u8 0), .lit (.int .u8 0)], .agg [.lit (.int .u8 0), .lit (.int .u8 0)], .agg [.lit (.int .u8 0), .lit (.int .u8 0)], .agg [.lit (.int .u8 0), .lit (.int .u8 0)], .agg [.lit (.int .u8 0), .lit (.int .u8 0)], .agg [.lit (.int .u8 0), .lit (.int .u8 0)], .agg [.lit (.int .u8 0), .lit (.int .u8 0)], .agg [.lit (.int .u8 0), .lit (.int .u8 0)], .agg [.lit (.int .u8 0), .lit (.int .u8 0)]]
/-- One of Go's own tables, pinned by name: the form's constant. -/
def laid_unicode_utf8_first : DataW Unit := Go.Pinned.utf8First

/-- 'quillpenlaw11.PiecesPlays': WHATEVER THE INPUT: true; the input reads as it did. -/
def piecesPlaysSpec : ChangeSpec := { name := "piecesPlays", fn := fun _ => fun
  | [d1, d2] => { results := [.lit (.bool true)], args := [d1, d2] }
  | _ => none }
def piecesPlaysRow : OpenClaim := { program := "ytaoncnlhilpgfaadoor", sum := "1958c644ec5c74ff20063892c1b5bc4f97317233ccafbf30973f055ccb7ebb02", func := "quillpen/quillpenlaw11.PiecesPlays", spec := "piecesPlays", inPlace := ["internal/bytealg.IndexByteString", "internal/bytealg.IndexString", "internal/abi.NoEscape", "internal/bytealg.CountString", "internal/bytealg.MakeNoZero"], named := ["internal/bytealg.MaxLen", "unicode/utf8.first", "unicode/utf8.acceptRanges"], apart := false, laid := [("unicode/utf8.acceptRanges", laid_unicode_utf8_acceptRanges), ("unicode/utf8.first", laid_unicode_utf8_first)] }
def PiecesPlaysSaid : Prop := piecesPlaysRow.holds Tryd.pinned (OpenSpec.ofChange piecesPlaysSpec)

/-- ITS FALSE NEIGHBOUR: 'it returns false'. Refute it at one input. -/
def piecesPlaysWrong : ChangeSpec := { name := "piecesPlays", fn := fun _ => fun
  | [d1, d2] => { results := [.lit (.bool false)], args := [d1, d2] }
  | _ => none }
def PiecesPlaysWrongFalsely : Prop := piecesPlaysRow.holds Tryd.pinned (OpenSpec.ofChange piecesPlaysWrong)

/-- 'quillpenlaw11.PiecesText': WHATEVER THE INPUT: true; the input reads as it did. -/
def piecesTextSpec : ChangeSpec := { name := "piecesText", fn := fun _ => fun
  | [d1, d2, d3] => { results := [.lit (.bool true)], args := [d1, d2, d3] }
  | _ => none }
def piecesTextRow : OpenClaim := { program := "ytaoncnlhilpgfaadoor", sum := "1958c644ec5c74ff20063892c1b5bc4f97317233ccafbf30973f055ccb7ebb02", func := "quillpen/quillpenlaw11.PiecesText", spec := "piecesText", inPlace := ["internal/bytealg.IndexByteString", "internal/bytealg.IndexString", "internal/abi.NoEscape", "internal/bytealg.CountString", "internal/bytealg.MakeNoZero"], named := ["internal/bytealg.MaxLen", "unicode/utf8.first", "unicode/utf8.acceptRanges"], apart := false, laid := [("unicode/utf8.acceptRanges", laid_unicode_utf8_acceptRanges), ("unicode/utf8.first", laid_unicode_utf8_first)] }
def PiecesTextSaid : Prop := piecesTextRow.holds Tryd.pinned (OpenSpec.ofChange piecesTextSpec)

/-- ITS FALSE NEIGHBOUR: 'it returns false'. Refute it at one input. -/
def piecesTextWrong : ChangeSpec := { name := "piecesText", fn := fun _ => fun
  | [d1, d2, d3] => { results := [.lit (.bool false)], args := [d1, d2, d3] }
  | _ => none }
def PiecesTextWrongFalsely : Prop := piecesTextRow.holds Tryd.pinned (OpenSpec.ofChange piecesTextWrong)

/-- 'quillpenlaw11.PiecesDrain': WHATEVER THE INPUT: true; the input reads as it did. -/
def piecesDrainSpec : ChangeSpec := { name := "piecesDrain", fn := fun _ => fun
  | [d1, d2, d3] => { results := [.lit (.bool true)], args := [d1, d2, d3] }
  | _ => none }
def piecesDrainRow : OpenClaim := { program := "ytaoncnlhilpgfaadoor", sum := "1958c644ec5c74ff20063892c1b5bc4f97317233ccafbf30973f055ccb7ebb02", func := "quillpen/quillpenlaw11.PiecesDrain", spec := "piecesDrain", inPlace := ["internal/bytealg.IndexByteString", "internal/bytealg.IndexString", "internal/abi.NoEscape", "internal/bytealg.CountString", "internal/bytealg.MakeNoZero"], unfollowed := true, recurses := true, named := ["internal/bytealg.MaxLen", "unicode/utf8.first", "unicode/utf8.acceptRanges"], apart := false, laid := [("unicode/utf8.acceptRanges", laid_unicode_utf8_acceptRanges), ("unicode/utf8.first", laid_unicode_utf8_first)] }
def PiecesDrainSaid : Prop := piecesDrainRow.holds Tryd.pinned (OpenSpec.ofChange piecesDrainSpec)

/-- ITS FALSE NEIGHBOUR: 'it returns false'. Refute it at one input. -/
def piecesDrainWrong : ChangeSpec := { name := "piecesDrain", fn := fun _ => fun
  | [d1, d2, d3] => { results := [.lit (.bool false)], args := [d1, d2, d3] }
  | _ => none }
def PiecesDrainWrongFalsely : Prop := piecesDrainRow.holds Tryd.pinned (OpenSpec.ofChange piecesDrainWrong)

/-- 'quillpenlaw11.PiecesOwn': WHATEVER THE INPUT: true; the input reads as it did. -/
def piecesOwnSpec : ChangeSpec := { name := "piecesOwn", fn := fun _ => fun
  | [d1, d2, d3] => { results := [.lit (.bool true)], args := [d1, d2, d3] }
  | _ => none }
def piecesOwnRow : OpenClaim := { program := "ytaoncnlhilpgfaadoor", sum := "1958c644ec5c74ff20063892c1b5bc4f97317233ccafbf30973f055ccb7ebb02", func := "quillpen/quillpenlaw11.PiecesOwn", spec := "piecesOwn", inPlace := ["internal/bytealg.IndexByteString", "internal/bytealg.IndexString", "internal/abi.NoEscape", "internal/bytealg.CountString", "internal/bytealg.MakeNoZero"], named := ["internal/bytealg.MaxLen", "unicode/utf8.first", "unicode/utf8.acceptRanges"], apart := false, laid := [("unicode/utf8.acceptRanges", laid_unicode_utf8_acceptRanges), ("unicode/utf8.first", laid_unicode_utf8_first)] }
def PiecesOwnSaid : Prop := piecesOwnRow.holds Tryd.pinned (OpenSpec.ofChange piecesOwnSpec)

/-- ITS FALSE NEIGHBOUR: 'it returns false'. Refute it at one input. -/
def piecesOwnWrong : ChangeSpec := { name := "piecesOwn", fn := fun _ => fun
  | [d1, d2, d3] => { results := [.lit (.bool false)], args := [d1, d2, d3] }
  | _ => none }
def PiecesOwnWrongFalsely : Prop := piecesOwnRow.holds Tryd.pinned (OpenSpec.ofChange piecesOwnWrong)

/- THE SECOND FORM. 'bulk': how many values and letters a reading holds, each counted each time it is reached (what is shared counts as often as it is met; a slice's spare places count too). A statement '..UptoSaid' is the law's where the arguments, and the package variables that the reading takes, are together of bulk at most 1048576: NARROWER than '..Said'. Prove '..Said' where nothing that the law and all that it calls make is longer than what came in: it says more and counts as full. Else prove '..UptoSaid'. A law counts once. -/
mutual
def uptoBulk {H : Type} : DataW H → Nat
  | .lit (.string bytes) => bytes.length + 1
  | .lit _ => 1
  | .nil => 1
  | .ptr d => uptoBulk d + 1
  | .slice elems spare => uptoBulkAll elems + uptoBulkAll spare + 1
  | .agg parts => uptoBulkAll parts + 1
  | .iface _ d => uptoBulk d + 1
  | .map entries => uptoBulkEntries entries + 1
  | .held _ => 1
def uptoBulkAll {H : Type} : List (DataW H) → Nat
  | [] => 0
  | d :: r => uptoBulk d + uptoBulkAll r
def uptoBulkEntries {H : Type} : List (Lit × DataW H) → Nat
  | [] => 0
  | x :: r => uptoBulkEntry x + uptoBulkEntries r
def uptoBulkEntry {H : Type} : Lit × DataW H → Nat
  | (.string bytes, d) => bytes.length + uptoBulk d + 1
  | (_, d) => uptoBulk d + 1
 end
def uptoSmall : (H : Type) → List (DataW H) → Bool := fun _ ds => decide (uptoBulkAll ds ≤ 1048576)
def OpenSpec.upto (s : _root_.Go.ChangeSpec) : _root_.Go.OpenSpec := { _root_.Go.OpenSpec.ofChange s with cond := some uptoSmall }

/-- 'quillpenlaw11.PiecesPlays', WHERE WHAT IT READS IS OF BULK AT MOST 1048576: true; the input reads as it did. -/
def piecesPlaysUptoRow : OpenClaim := { program := "ytaoncnlhilpgfaadoor", sum := "1958c644ec5c74ff20063892c1b5bc4f97317233ccafbf30973f055ccb7ebb02", func := "quillpen/quillpenlaw11.PiecesPlays", spec := "piecesPlays", inPlace := ["internal/bytealg.IndexByteString", "internal/bytealg.IndexString", "internal/abi.NoEscape", "internal/bytealg.CountString", "internal/bytealg.MakeNoZero"], named := ["internal/bytealg.MaxLen", "unicode/utf8.first", "unicode/utf8.acceptRanges"], apart := false, laid := [("unicode/utf8.acceptRanges", laid_unicode_utf8_acceptRanges), ("unicode/utf8.first", laid_unicode_utf8_first)], narrowed := true }
def PiecesPlaysUptoSaid : Prop := piecesPlaysUptoRow.holds Tryd.pinned (OpenSpec.upto piecesPlaysSpec)

/-- 'quillpenlaw11.PiecesText', WHERE WHAT IT READS IS OF BULK AT MOST 1048576: true; the input reads as it did. -/
def piecesTextUptoRow : OpenClaim := { program := "ytaoncnlhilpgfaadoor", sum := "1958c644ec5c74ff20063892c1b5bc4f97317233ccafbf30973f055ccb7ebb02", func := "quillpen/quillpenlaw11.PiecesText", spec := "piecesText", inPlace := ["internal/bytealg.IndexByteString", "internal/bytealg.IndexString", "internal/abi.NoEscape", "internal/bytealg.CountString", "internal/bytealg.MakeNoZero"], named := ["internal/bytealg.MaxLen", "unicode/utf8.first", "unicode/utf8.acceptRanges"], apart := false, laid := [("unicode/utf8.acceptRanges", laid_unicode_utf8_acceptRanges), ("unicode/utf8.first", laid_unicode_utf8_first)], narrowed := true }
def PiecesTextUptoSaid : Prop := piecesTextUptoRow.holds Tryd.pinned (OpenSpec.upto piecesTextSpec)

/-- 'quillpenlaw11.PiecesDrain', WHERE WHAT IT READS IS OF BULK AT MOST 1048576: true; the input reads as it did. -/
def piecesDrainUptoRow : OpenClaim := { program := "ytaoncnlhilpgfaadoor", sum := "1958c644ec5c74ff20063892c1b5bc4f97317233ccafbf30973f055ccb7ebb02", func := "quillpen/quillpenlaw11.PiecesDrain", spec := "piecesDrain", inPlace := ["internal/bytealg.IndexByteString", "internal/bytealg.IndexString", "internal/abi.NoEscape", "internal/bytealg.CountString", "internal/bytealg.MakeNoZero"], unfollowed := true, recurses := true, named := ["internal/bytealg.MaxLen", "unicode/utf8.first", "unicode/utf8.acceptRanges"], apart := false, laid := [("unicode/utf8.acceptRanges", laid_unicode_utf8_acceptRanges), ("unicode/utf8.first", laid_unicode_utf8_first)], narrowed := true }
def PiecesDrainUptoSaid : Prop := piecesDrainUptoRow.holds Tryd.pinned (OpenSpec.upto piecesDrainSpec)

/-- 'quillpenlaw11.PiecesOwn', WHERE WHAT IT READS IS OF BULK AT MOST 1048576: true; the input reads as it did. -/
def piecesOwnUptoRow : OpenClaim := { program := "ytaoncnlhilpgfaadoor", sum := "1958c644ec5c74ff20063892c1b5bc4f97317233ccafbf30973f055ccb7ebb02", func := "quillpen/quillpenlaw11.PiecesOwn", spec := "piecesOwn", inPlace := ["internal/bytealg.IndexByteString", "internal/bytealg.IndexString", "internal/abi.NoEscape", "internal/bytealg.CountString", "internal/bytealg.MakeNoZero"], named := ["internal/bytealg.MaxLen", "unicode/utf8.first", "unicode/utf8.acceptRanges"], apart := false, laid := [("unicode/utf8.acceptRanges", laid_unicode_utf8_acceptRanges), ("unicode/utf8.first", laid_unicode_utf8_first)], narrowed := true }
def PiecesOwnUptoSaid : Prop := piecesOwnUptoRow.holds Tryd.pinned (OpenSpec.upto piecesOwnSpec)

end Rows
end Go.Proofs.YtaoncnlhilpgfaaDoor
