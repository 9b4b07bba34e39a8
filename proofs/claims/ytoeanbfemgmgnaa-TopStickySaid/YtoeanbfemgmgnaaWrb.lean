/- Layer 11: what the program's writer does (premises, over any way to say where it lies). -/
import Derived.Test.YtoeanbfemgmgnaaWrs
import Derived.Test.YtoeanbfemgmgnaaZk
import Derived.Test.YtoeanbfemgmgnaaZq
namespace Go.Proofs.Ytoeanbfemgmgnaa
open Go.ChangeShapes Go.WideShapes Go.ChangeAt Go.RowKit
set_option linter.unusedVariables false
set_option linter.unusedSimpArgs false

/-- A new writer. -/
def Wr1.new (d q e : Int) : Wr1 := ⟨d, q, e, ⟨#[]⟩, 0, 0, false⟩
def Wr1.shut (x : Wr1) : Wr1 := { x with cl := true }
theorem new_ok {d q e : Int} (d0 : 0 ≤ d) (d1 : d ≤ 255) (q0 : 0 ≤ q) (q1 : q ≤ 255) : (Wr1.new d q e).Ok := ⟨d0, d1, q0, q1, Nat.le_refl _⟩
end Go.Proofs.Ytoeanbfemgmgnaa
