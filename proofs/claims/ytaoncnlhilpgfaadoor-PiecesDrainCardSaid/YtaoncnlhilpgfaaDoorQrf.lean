/- Layer 10: SameTable at any two tables; a table's text is read as the table. -/
import Derived.Test.YtaoncnlhilpgfaaDoorQrs
import Derived.Test.YtaoncnlhilpgfaaDoorRows
import Derived.LoopTactic
import Derived.Test.YtaoncnlhilpgfaaDoorZk
import Derived.Test.YtaoncnlhilpgfaaDoorZp
import Derived.Test.YtaoncnlhilpgfaaDoorNds
namespace Go.Proofs.YtaoncnlhilpgfaaDoor
open Go.ChangeShapes Go.WideShapes Go.ChangeAt Go.RowKit
set_option linter.unusedVariables false
set_option linter.unusedSimpArgs false

/-- Every record may be written. -/
def AllMay (t : List (List ByteArray)) : Prop := ∀ r ∈ t, mayN r = 0
theorem front_all {t : List (List ByteArray)} (h : AllMay t) : frontN t = t.length := by
  induction t with
  | nil => rfl
  | cons r t ih =>
    unfold frontN
    rw [if_pos (h r (List.mem_cons_self ..)), ih (fun x hx => h x (List.mem_cons_of_mem _ hx))]
    rfl
end Go.Proofs.YtaoncnlhilpgfaaDoor
