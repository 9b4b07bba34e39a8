/- Layer 12: the walk of TopBack over the program's writer and reader. -/
import Derived.Test.YtoeanbfemgmgnaaTre
import Derived.Test.YtoeanbfemgmgnaaTrt
import Derived.Test.YtoeanbfemgmgnaaWrw
namespace Go.Proofs.Ytoeanbfemgmgnaa
open Go.ChangeShapes Go.WideShapes Go.ChangeAt Go.RowKit
set_option linter.unusedVariables false
set_option linter.unusedSimpArgs false

end Go.Proofs.Ytoeanbfemgmgnaa
