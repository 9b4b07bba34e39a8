/- Layer 12: the statements' right; the walk of TopReads over the program's reader. -/
import Derived.Test.YtoeanbfemgmgnaaGreatDoorTrb
import Derived.Test.YtoeanbfemgmgnaaGreatDoorZn
import Derived.Test.YtoeanbfemgmgnaaGreatDoorRows
import Derived.Test.YtoeanbfemgmgnaaGreatDoorZk
import Derived.Test.YtoeanbfemgmgnaaGreatDoorZp
import Derived.Test.YtoeanbfemgmgnaaGreatDoorQrf
namespace Go.Proofs.YtoeanbfemgmgnaaGreatDoor
open Go.ChangeShapes Go.WideShapes Go.ChangeAt Go.RowKit
set_option linter.unusedVariables false
set_option linter.unusedSimpArgs false

def AliveSays : Prop := ∀ w : World, Calls Tryz.prog 7 #[] w fun x w' => x = .returned (.bool true) ∧ Below w.heap.size w w'
end Go.Proofs.YtoeanbfemgmgnaaGreatDoor
