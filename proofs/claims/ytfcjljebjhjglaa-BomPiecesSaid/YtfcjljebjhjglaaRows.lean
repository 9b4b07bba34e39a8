/-
  No cell of these rows narrows 'for every input' (looked for: loops, veiled, ifaces, maps, wideKeys, modest, calm, conditions, laid).
  DERIVED. THE GIVEN ROWS OF THIS SEAT. 3 by the template 'for every input the law returns true; each argument reads behind the call as it read before'; 0 by the template 'total and deterministic' (their statements: YtfcjljebjhjglaaTotals.lean).
  GIVEN WITH THE SEED: the statements are not yours to turn. If you find one false, say at which input.
  Laid BY PROGRAM, IN A SANDBOX (cutbox-rows.mjs): the forced cells as the released guide's own fill.sh prints them over the translation e441396f1c02ab6e… (all of the seat's roots in one cut). By AI agents, Wed Nov 11 2026. No macro, syntax, notation, axiom, sorry.
-/
import Derived.Test.YtfcjljebjhjglaaChecked
import GoSem.Claim
import GoSem.ClaimJoined
import GoSem.ClaimMapViews
import Derived.JoinedTies
import Derived.KernelRfl
namespace Go.Proofs.Ytfcjljebjhjglaa
/- THE CELL 'sum', in the pinned program and in every row, IS THE sha256 OF THE DUMP (.gsa) THAT YtfcjljebjhjglaaProg.lean LOADS. Nothing in Lean hashes anything: it is a label: what it is worth is what the hold of that sum in a sandbox is worth. -/
noncomputable def Try.pinned : Pinned := { name := "ytfcjljebjhjglaa", sum := "e441396f1c02ab6e24427e85b325b5eff6578553adaa56f0bf2ac318b7b9775c", checked := Try.checked }
namespace Rows
def none {H : Type} : Left H := { results := [], args := [] }

/-- 'quillpenlaw03.BomStrips': WHATEVER THE INPUT: true; the input reads as it did. -/
def bomStripsSpec : ChangeSpec := { name := "bomStrips", fn := fun _ => fun
  | [d] => { results := [.lit (.bool true)], args := [d] }
  | _ => none }
def bomStripsRow : OpenClaim := { program := "ytfcjljebjhjglaa", sum := "e441396f1c02ab6e24427e85b325b5eff6578553adaa56f0bf2ac318b7b9775c", func := "quillpen/quillpenlaw03.BomStrips", spec := "bomStrips", apart := false }
def BomStripsSaid : Prop := bomStripsRow.holds Try.pinned (OpenSpec.ofChange bomStripsSpec)

/-- ITS FALSE NEIGHBOUR: 'it returns false'. Refute it at one input. -/
def bomStripsWrong : ChangeSpec := { name := "bomStrips", fn := fun _ => fun
  | [d] => { results := [.lit (.bool false)], args := [d] }
  | _ => none }
def BomStripsWrongFalsely : Prop := bomStripsRow.holds Try.pinned (OpenSpec.ofChange bomStripsWrong)

/-- 'quillpenlaw03.BomPieces': WHATEVER THE INPUT: true; the input reads as it did. -/
def bomPiecesSpec : ChangeSpec := { name := "bomPieces", fn := fun _ => fun
  | [d] => { results := [.lit (.bool true)], args := [d] }
  | _ => none }
def bomPiecesRow : OpenClaim := { program := "ytfcjljebjhjglaa", sum := "e441396f1c02ab6e24427e85b325b5eff6578553adaa56f0bf2ac318b7b9775c", func := "quillpen/quillpenlaw03.BomPieces", spec := "bomPieces", apart := false }
def BomPiecesSaid : Prop := bomPiecesRow.holds Try.pinned (OpenSpec.ofChange bomPiecesSpec)

/-- ITS FALSE NEIGHBOUR: 'it returns false'. Refute it at one input. -/
def bomPiecesWrong : ChangeSpec := { name := "bomPieces", fn := fun _ => fun
  | [d] => { results := [.lit (.bool false)], args := [d] }
  | _ => none }
def BomPiecesWrongFalsely : Prop := bomPiecesRow.holds Try.pinned (OpenSpec.ofChange bomPiecesWrong)

/-- 'quillpenlaw03.BomOwn': WHATEVER THE INPUT: true; the input reads as it did. -/
def bomOwnSpec : ChangeSpec := { name := "bomOwn", fn := fun _ => fun
  | [d1, d2] => { results := [.lit (.bool true)], args := [d1, d2] }
  | _ => none }
def bomOwnRow : OpenClaim := { program := "ytfcjljebjhjglaa", sum := "e441396f1c02ab6e24427e85b325b5eff6578553adaa56f0bf2ac318b7b9775c", func := "quillpen/quillpenlaw03.BomOwn", spec := "bomOwn", apart := false }
def BomOwnSaid : Prop := bomOwnRow.holds Try.pinned (OpenSpec.ofChange bomOwnSpec)

/-- ITS FALSE NEIGHBOUR: 'it returns false'. Refute it at one input. -/
def bomOwnWrong : ChangeSpec := { name := "bomOwn", fn := fun _ => fun
  | [d1, d2] => { results := [.lit (.bool false)], args := [d1, d2] }
  | _ => none }
def BomOwnWrongFalsely : Prop := bomOwnRow.holds Try.pinned (OpenSpec.ofChange bomOwnWrong)

/- THE SECOND FORM. 'bulk': how many values and letters a reading holds, each counted each time it is reached (what is shared counts as often as it is met; a slice's spare places count too). A statement '..UptoSaid' is the law's where the arguments, and the package variables that the reading takes, are together of bulk at most 1048576: NARROWER than '..Said'. Prove '..Said' where nothing that the law and all that it calls make is longer than what came in: it says more and counts as full. Else prove '..UptoSaid'. A law counts once. -/
mutual
def uptoBulk {H : Type} : DataW H → Nat
  | .lit (.string bytes) => bytes.length + 1
  | .lit _ => 1
  | .nil => 1
  | .ptr d => uptoBulk d + 1
  | .slice elems spare => uptoBulkAll elems + uptoBulkAll spare + 1
  | .agg parts => uptoBulkAll parts + 1
  | .iface _ d => uptoBulk d + 1
  | .map entries => uptoBulkEntries entries + 1
  | .held _ => 1
def uptoBulkAll {H : Type} : List (DataW H) → Nat
  | [] => 0
  | d :: r => uptoBulk d + uptoBulkAll r
def uptoBulkEntries {H : Type} : List (Lit × DataW H) → Nat
  | [] => 0
  | x :: r => uptoBulkEntry x + uptoBulkEntries r
def uptoBulkEntry {H : Type} : Lit × DataW H → Nat
  | (.string bytes, d) => bytes.length + uptoBulk d + 1
  | (_, d) => uptoBulk d + 1
 end
def uptoSmall : (H : Type) → List (DataW H) → Bool := fun _ ds => decide (uptoBulkAll ds ≤ 1048576)
def OpenSpec.upto (s : _root_.Go.ChangeSpec) : _root_.Go.OpenSpec := { _root_.Go.OpenSpec.ofChange s with cond := some uptoSmall }

/-- 'quillpenlaw03.BomStrips', WHERE WHAT IT READS IS OF BULK AT MOST 1048576: true; the input reads as it did. -/
def bomStripsUptoRow : OpenClaim := { program := "ytfcjljebjhjglaa", sum := "e441396f1c02ab6e24427e85b325b5eff6578553adaa56f0bf2ac318b7b9775c", func := "quillpen/quillpenlaw03.BomStrips", spec := "bomStrips", apart := false, narrowed := true }
def BomStripsUptoSaid : Prop := bomStripsUptoRow.holds Try.pinned (OpenSpec.upto bomStripsSpec)

/-- 'quillpenlaw03.BomPieces', WHERE WHAT IT READS IS OF BULK AT MOST 1048576: true; the input reads as it did. -/
def bomPiecesUptoRow : OpenClaim := { program := "ytfcjljebjhjglaa", sum := "e441396f1c02ab6e24427e85b325b5eff6578553adaa56f0bf2ac318b7b9775c", func := "quillpen/quillpenlaw03.BomPieces", spec := "bomPieces", apart := false, narrowed := true }
def BomPiecesUptoSaid : Prop := bomPiecesUptoRow.holds Try.pinned (OpenSpec.upto bomPiecesSpec)

/-- 'quillpenlaw03.BomOwn', WHERE WHAT IT READS IS OF BULK AT MOST 1048576: true; the input reads as it did. -/
def bomOwnUptoRow : OpenClaim := { program := "ytfcjljebjhjglaa", sum := "e441396f1c02ab6e24427e85b325b5eff6578553adaa56f0bf2ac318b7b9775c", func := "quillpen/quillpenlaw03.BomOwn", spec := "bomOwn", apart := false, narrowed := true }
def BomOwnUptoSaid : Prop := bomOwnUptoRow.holds Try.pinned (OpenSpec.upto bomOwnSpec)

end Rows
end Go.Proofs.Ytfcjljebjhjglaa
