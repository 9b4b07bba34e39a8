/-
  DERIVED. GIVEN WITH THE SEED: THE CARDS: each row of YtigoonokiihdgaaDoorRows.lean that lists a variable, with what it lists TIED to the program's text (the seventh form; the later family's looks); each row that meets fmt, with fmt's text TOLD by the authors' own Lean function (tested against real Go, not proved from fmt's source: count such statements apart). THE CARD IS WHAT COUNTS. Prove the row's statement (the work); the ties are given (YtigoonokiihdgaaDoorTie.lean); close each card by the builder's one call (the guide's Derived/Test/ToyasCard.lean, 'card_holds'). Laid BY PROGRAM, IN A SANDBOX (cutbox-door.mjs). By AI agents, Wed Nov 11 2026. No macro, syntax, notation, axiom, sorry.
-/
import Derived.Test.YtigoonokiihdgaaDoorRows
import GoSem.ClaimSeven
namespace Go.Proofs.YtigoonokiihdgaaDoor
namespace Rows

/-- THE TIED CARD OF 'quillpenlaw10.WriteLines'. -/
def writeLinesCard : Claim7 := { stood := { row := writeLinesRow, standIns := [], harness := (true, "b7ad6815f9f4d6feee15416c7dcb90e80ba94683ea5f865041f19948dbe5c216"), looks := false }, kinds := [], alts := [], laidByText := true, laidKinds := [.data, .pinned], laidTests := true, laidLooks := .later }
def WriteLinesCardSaid : Prop := Claim7.holds Tryd.pinned (.plain (OpenSpec.ofChange writeLinesSpec)) writeLinesCard

/-- THE TIED CARD OF 'quillpenlaw10.WriteTables'. -/
def writeTablesCard : Claim7 := { stood := { row := writeTablesRow, standIns := [], harness := (true, "b7ad6815f9f4d6feee15416c7dcb90e80ba94683ea5f865041f19948dbe5c216"), looks := false }, kinds := [], alts := [], laidByText := true, laidKinds := [.data, .pinned], laidTests := true, laidLooks := .later }
def WriteTablesCardSaid : Prop := Claim7.holds Tryd.pinned (.plain (OpenSpec.ofChange writeTablesSpec)) writeTablesCard

/-- THE TIED CARD OF 'quillpenlaw10.WriteReads'. -/
def writeReadsCard : Claim7 := { stood := { row := writeReadsRow, standIns := [], harness := (true, "b7ad6815f9f4d6feee15416c7dcb90e80ba94683ea5f865041f19948dbe5c216"), looks := false }, kinds := [], alts := [], laidByText := true, laidKinds := [.data, .pinned], laidTests := true, laidLooks := .later }
def WriteReadsCardSaid : Prop := Claim7.holds Tryd.pinned (.plain (OpenSpec.ofChange writeReadsSpec)) writeReadsCard

/-- THE TIED CARD OF 'quillpenlaw10.WriteLess'. -/
def writeLessCard : Claim7 := { stood := { row := writeLessRow, standIns := [], harness := (true, "b7ad6815f9f4d6feee15416c7dcb90e80ba94683ea5f865041f19948dbe5c216"), looks := false }, kinds := [], alts := [], laidByText := true, laidKinds := [.data, .pinned], laidTests := true, laidLooks := .later }
def WriteLessCardSaid : Prop := Claim7.holds Tryd.pinned (.plain (OpenSpec.ofChange writeLessSpec)) writeLessCard

/-- THE SECOND FORM's CARD OF 'quillpenlaw10.WriteLines'. -/
def writeLinesUptoCard : Claim7 := { stood := { row := writeLinesUptoRow, standIns := [], harness := (true, "b7ad6815f9f4d6feee15416c7dcb90e80ba94683ea5f865041f19948dbe5c216"), looks := false }, kinds := [], alts := [], laidByText := true, laidKinds := [.data, .pinned], laidTests := true, laidLooks := .later }
def WriteLinesUptoCardSaid : Prop := Claim7.holds Tryd.pinned (.plain (OpenSpec.upto writeLinesSpec)) writeLinesUptoCard

/-- THE SECOND FORM's CARD OF 'quillpenlaw10.WriteTables'. -/
def writeTablesUptoCard : Claim7 := { stood := { row := writeTablesUptoRow, standIns := [], harness := (true, "b7ad6815f9f4d6feee15416c7dcb90e80ba94683ea5f865041f19948dbe5c216"), looks := false }, kinds := [], alts := [], laidByText := true, laidKinds := [.data, .pinned], laidTests := true, laidLooks := .later }
def WriteTablesUptoCardSaid : Prop := Claim7.holds Tryd.pinned (.plain (OpenSpec.upto writeTablesSpec)) writeTablesUptoCard

/-- THE SECOND FORM's CARD OF 'quillpenlaw10.WriteReads'. -/
def writeReadsUptoCard : Claim7 := { stood := { row := writeReadsUptoRow, standIns := [], harness := (true, "b7ad6815f9f4d6feee15416c7dcb90e80ba94683ea5f865041f19948dbe5c216"), looks := false }, kinds := [], alts := [], laidByText := true, laidKinds := [.data, .pinned], laidTests := true, laidLooks := .later }
def WriteReadsUptoCardSaid : Prop := Claim7.holds Tryd.pinned (.plain (OpenSpec.upto writeReadsSpec)) writeReadsUptoCard

/-- THE SECOND FORM's CARD OF 'quillpenlaw10.WriteLess'. -/
def writeLessUptoCard : Claim7 := { stood := { row := writeLessUptoRow, standIns := [], harness := (true, "b7ad6815f9f4d6feee15416c7dcb90e80ba94683ea5f865041f19948dbe5c216"), looks := false }, kinds := [], alts := [], laidByText := true, laidKinds := [.data, .pinned], laidTests := true, laidLooks := .later }
def WriteLessUptoCardSaid : Prop := Claim7.holds Tryd.pinned (.plain (OpenSpec.upto writeLessSpec)) writeLessUptoCard
end Rows
end Go.Proofs.YtigoonokiihdgaaDoor
