/- Layer 6: the contract of the document's own Parse. -/
import Derived.Test.YtaoncnlhilpgfaaDoorRxk
import Derived.Test.YtaoncnlhilpgfaaDoorNdu
import Derived.Test.YtaoncnlhilpgfaaDoorNdb
import Derived.Test.YtaoncnlhilpgfaaDoorZp
import Derived.Test.YtaoncnlhilpgfaaDoorZk
import Derived.Deep.DeepCutAuto
import Derived.Deep.CutRange
import Derived.Deep.CutBlock
namespace Go.Proofs.YtaoncnlhilpgfaaDoor
open Go.ChangeShapes Go.WideShapes Go.ChangeAt Go.RowKit
set_option linter.unusedVariables false
set_option linter.unusedSimpArgs false

theorem RowsAt.toIn {w : World} {base : Nat} {V : List Value} {rs : List (List ByteArray)} {no : Option Nat} (h : RowsAt w base 9 V rs no) : RowsIn w V rs := ⟨h.1, fun j x hx => by
  obtain ⟨A, a, h1, h2, _⟩ := h.2 j x hx
  exact ⟨A, a, h1, h2.toIn⟩⟩

end Go.Proofs.YtaoncnlhilpgfaaDoor
