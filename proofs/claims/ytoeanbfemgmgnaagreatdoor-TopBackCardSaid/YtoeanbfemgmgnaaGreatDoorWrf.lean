/- Layer 11: what the program's Drain does (a premise); the pieces, plain. -/
import Derived.Test.YtoeanbfemgmgnaaGreatDoorWrb
import Derived.Test.YtoeanbfemgmgnaaGreatDoorZk
namespace Go.Proofs.YtoeanbfemgmgnaaGreatDoor
open Go.ChangeShapes Go.WideShapes Go.ChangeAt Go.RowKit
set_option linter.unusedVariables false
set_option linter.unusedSimpArgs false

/-- What is left of a writer. -/
def Wr1.rest (x : Wr1) : ByteArray := x.S.extract x.tk x.S.size
end Go.Proofs.YtoeanbfemgmgnaaGreatDoor
