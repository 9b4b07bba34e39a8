/-
  DERIVED. GIVEN WITH THE SEED: THE CARDS: each row of YtaoncnlhilpgfaaDoorRows.lean that lists a variable, with what it lists TIED to the program's text (the seventh form; the later family's looks); each row that meets fmt, with fmt's text TOLD by the authors' own Lean function (tested against real Go, not proved from fmt's source: count such statements apart). THE CARD IS WHAT COUNTS. Prove the row's statement (the work); the ties are given (YtaoncnlhilpgfaaDoorTie.lean); close each card by the builder's one call (the guide's Derived/Test/ToyasCard.lean, 'card_holds'). Laid BY PROGRAM, IN A SANDBOX (cutbox-door.mjs). By AI agents, Wed Nov 11 2026. No macro, syntax, notation, axiom, sorry.
-/
import Derived.Test.YtaoncnlhilpgfaaDoorRows
import GoSem.ClaimSeven
namespace Go.Proofs.YtaoncnlhilpgfaaDoor
namespace Rows

/-- THE TIED CARD OF 'quillpenlaw11.PiecesPlays'. -/
def piecesPlaysCard : Claim7 := { stood := { row := piecesPlaysRow, standIns := [], harness := (true, "221ea9efe76d2dc1bb3ce0455de452141a60b4883ca8ff2a1acb2a281cfef6dc"), looks := false }, kinds := [], alts := [], laidByText := true, laidKinds := [.data, .pinned], laidTests := true, laidLooks := .later }
def PiecesPlaysCardSaid : Prop := Claim7.holds Tryd.pinned (.plain (OpenSpec.ofChange piecesPlaysSpec)) piecesPlaysCard

/-- THE TIED CARD OF 'quillpenlaw11.PiecesText'. -/
def piecesTextCard : Claim7 := { stood := { row := piecesTextRow, standIns := [], harness := (true, "221ea9efe76d2dc1bb3ce0455de452141a60b4883ca8ff2a1acb2a281cfef6dc"), looks := false }, kinds := [], alts := [], laidByText := true, laidKinds := [.data, .pinned], laidTests := true, laidLooks := .later }
def PiecesTextCardSaid : Prop := Claim7.holds Tryd.pinned (.plain (OpenSpec.ofChange piecesTextSpec)) piecesTextCard

/-- THE TIED CARD OF 'quillpenlaw11.PiecesDrain'. -/
def piecesDrainCard : Claim7 := { stood := { row := piecesDrainRow, standIns := [], harness := (true, "221ea9efe76d2dc1bb3ce0455de452141a60b4883ca8ff2a1acb2a281cfef6dc"), looks := false }, kinds := [], alts := [], laidByText := true, laidKinds := [.data, .pinned], laidTests := true, laidLooks := .later }
def PiecesDrainCardSaid : Prop := Claim7.holds Tryd.pinned (.plain (OpenSpec.ofChange piecesDrainSpec)) piecesDrainCard

/-- THE TIED CARD OF 'quillpenlaw11.PiecesOwn'. -/
def piecesOwnCard : Claim7 := { stood := { row := piecesOwnRow, standIns := [], harness := (true, "221ea9efe76d2dc1bb3ce0455de452141a60b4883ca8ff2a1acb2a281cfef6dc"), looks := false }, kinds := [], alts := [], laidByText := true, laidKinds := [.data, .pinned], laidTests := true, laidLooks := .later }
def PiecesOwnCardSaid : Prop := Claim7.holds Tryd.pinned (.plain (OpenSpec.ofChange piecesOwnSpec)) piecesOwnCard

/-- THE SECOND FORM's CARD OF 'quillpenlaw11.PiecesPlays'. -/
def piecesPlaysUptoCard : Claim7 := { stood := { row := piecesPlaysUptoRow, standIns := [], harness := (true, "221ea9efe76d2dc1bb3ce0455de452141a60b4883ca8ff2a1acb2a281cfef6dc"), looks := false }, kinds := [], alts := [], laidByText := true, laidKinds := [.data, .pinned], laidTests := true, laidLooks := .later }
def PiecesPlaysUptoCardSaid : Prop := Claim7.holds Tryd.pinned (.plain (OpenSpec.upto piecesPlaysSpec)) piecesPlaysUptoCard

/-- THE SECOND FORM's CARD OF 'quillpenlaw11.PiecesText'. -/
def piecesTextUptoCard : Claim7 := { stood := { row := piecesTextUptoRow, standIns := [], harness := (true, "221ea9efe76d2dc1bb3ce0455de452141a60b4883ca8ff2a1acb2a281cfef6dc"), looks := false }, kinds := [], alts := [], laidByText := true, laidKinds := [.data, .pinned], laidTests := true, laidLooks := .later }
def PiecesTextUptoCardSaid : Prop := Claim7.holds Tryd.pinned (.plain (OpenSpec.upto piecesTextSpec)) piecesTextUptoCard

/-- THE SECOND FORM's CARD OF 'quillpenlaw11.PiecesDrain'. -/
def piecesDrainUptoCard : Claim7 := { stood := { row := piecesDrainUptoRow, standIns := [], harness := (true, "221ea9efe76d2dc1bb3ce0455de452141a60b4883ca8ff2a1acb2a281cfef6dc"), looks := false }, kinds := [], alts := [], laidByText := true, laidKinds := [.data, .pinned], laidTests := true, laidLooks := .later }
def PiecesDrainUptoCardSaid : Prop := Claim7.holds Tryd.pinned (.plain (OpenSpec.upto piecesDrainSpec)) piecesDrainUptoCard

/-- THE SECOND FORM's CARD OF 'quillpenlaw11.PiecesOwn'. -/
def piecesOwnUptoCard : Claim7 := { stood := { row := piecesOwnUptoRow, standIns := [], harness := (true, "221ea9efe76d2dc1bb3ce0455de452141a60b4883ca8ff2a1acb2a281cfef6dc"), looks := false }, kinds := [], alts := [], laidByText := true, laidKinds := [.data, .pinned], laidTests := true, laidLooks := .later }
def PiecesOwnUptoCardSaid : Prop := Claim7.holds Tryd.pinned (.plain (OpenSpec.upto piecesOwnSpec)) piecesOwnUptoCard
end Rows
end Go.Proofs.YtaoncnlhilpgfaaDoor
