/- The document's Same at any two lists; its Parse within wide limits. -/
import Derived.Test.YtaoncnlhilpgfaaDoorRows
import Derived.LoopTactic
import Derived.Test.YtaoncnlhilpgfaaDoorZk
import Derived.Test.YtaoncnlhilpgfaaDoorZp
import Derived.Test.YtaoncnlhilpgfaaDoorNdp
import Derived.Test.YtaoncnlhilpgfaaDoorNda
namespace Go.Proofs.YtaoncnlhilpgfaaDoor
open Go.ChangeShapes Go.WideShapes Go.ChangeAt Go.RowKit
set_option linter.unusedVariables false
set_option linter.unusedSimpArgs false

theorem GotOk.mono {G : Got} {n m : Nat} (h : GotOk G n) (hm : n ≤ m) : GotOk G m := ⟨h.k, fun p hp => Nat.le_trans (h.e p hp) hm, by have := h.len; omega, Nat.le_trans h.a hm, h.z⟩
end Go.Proofs.YtaoncnlhilpgfaaDoor
