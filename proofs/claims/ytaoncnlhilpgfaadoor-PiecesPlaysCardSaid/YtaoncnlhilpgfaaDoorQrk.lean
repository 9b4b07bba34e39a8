/- Layer 10: the document's example over what Table answers. -/
import Derived.Test.YtaoncnlhilpgfaaDoorQrf
import Derived.Test.YtaoncnlhilpgfaaDoorQrl
namespace Go.Proofs.YtaoncnlhilpgfaaDoor
open Go.ChangeShapes Go.WideShapes Go.ChangeAt Go.RowKit
set_option linter.unusedVariables false
set_option linter.unusedSimpArgs false

theorem utfB_a : utfB ⟨#[97]⟩ = true := by
  unfold utfB
  refine decide_eq_true ?_
  rw [uok_whole (show UOk (bl ⟨#[97]⟩) from ⟨by decide, by decide⟩)]
  rfl
theorem cells_row {W : World} {g : Nat} {t : TypeId} {l : List ByteArray} (h : StB W g t (strs l).toArray) : SlIn W (some ⟨g, 0, none⟩) l.length (strs l) := by
  refine ⟨by rw [strs_length], fun j u hu => ⟨_, rfl, ?_⟩⟩
  have : (Addr.add ⟨g, 0, none⟩ j : Addr) = ⟨g, j, none⟩ := by simp [Addr.add]; intro h; exact h.symm
  rw [this, h.cell j]
  simpa using hu
end Go.Proofs.YtaoncnlhilpgfaaDoor
