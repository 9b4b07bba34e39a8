/- Layer 6: the document's lines, one after another: the plain half; a line that may not begin. Layer 6: the document's Read. -/
import Derived.Test.YtaoncnlhilpgfaaDoorRxh
import Derived.Deep.DeepCutAuto
import Derived.Deep.CutRange
import Derived.Deep.CutBlock
namespace Go.Proofs.YtaoncnlhilpgfaaDoor
open Go.ChangeShapes Go.WideShapes Go.ChangeAt Go.RowKit
set_option linter.unusedVariables false
set_option linter.unusedSimpArgs false

section
variable {d q e : Int} {m : Mk} {i : Nat} {s : ByteArray}
end

/-! ### All lines: what is told already, and what is told of the rest -/
def Got.join (T : List (List ByteArray × Nat)) (o : Got) : Got := ⟨T ++ o.rs, o.k, o.at_⟩
section
variable {d q e : Int} {n : Nat} {m : Mk} {i : Nat} {l : List Int} {b : Int}
end

end Go.Proofs.YtaoncnlhilpgfaaDoor

namespace Go.Proofs.YtaoncnlhilpgfaaDoor
open Go.ChangeShapes Go.WideShapes Go.ChangeAt Go.RowKit
set_option linter.unusedVariables false
set_option linter.unusedSimpArgs false

theorem RowsAt.mono {w : World} {base base' : Nat} {e : TypeId} {V : List Value} {rs : List (List ByteArray)} {no : Option Nat} (h : RowsAt w base e V rs no) (hb : base' ≤ base) : RowsAt w base' e V rs no := ⟨h.1, fun j x hx => by
  obtain ⟨A, a, hv, ho, hn⟩ := h.2 j x hx
  exact ⟨A, a, hv, ho.mono hb, hn⟩⟩
end Go.Proofs.YtaoncnlhilpgfaaDoor
