/- Layer 8: which of a record's fields must be quoted; what the program's Fields answers (premise). -/
import Derived.Test.YtaoncnlhilpgfaaDoorNea
namespace Go.Proofs.YtaoncnlhilpgfaaDoor
open Go.ChangeShapes Go.WideShapes Go.ChangeAt Go.RowKit
set_option linter.unusedVariables false
set_option linter.unusedSimpArgs false

/-- Truths as cells. -/
def bools (l : List Bool) : List Value := l.map Value.bool
/-- Which fields must be quoted: from field k on, of n. -/
def needL (d q : Int) (fi : Bool) (n : Nat) : Nat → List ByteArray → List Bool
  | _, [] => []
  | k, f :: r => needB d q f (decide (n = 1)) (fi && decide (k = 0)) :: needL d q fi n (k + 1) r
theorem needL_length (d q : Int) (fi : Bool) (n : Nat) : ∀ (r : List ByteArray) (k : Nat), (needL d q fi n k r).length = r.length
  | [], _ => rfl
  | f :: r, k => by rw [needL, List.length_cons, List.length_cons, needL_length d q fi n r]
theorem needL_at (d q : Int) (fi : Bool) (n : Nat) : ∀ (r : List ByteArray) (k j : Nat) (f : ByteArray), r[j]? = some f → (needL d q fi n k r)[j]? = some (needB d q f (decide (n = 1)) (fi && decide (k + j = 0)))
  | [], _, _, _, h => by simp at h
  | g :: r, k, 0, f, h => by simp at h; subst h; simp [needL]
  | g :: r, k, j + 1, f, h => by
    have := needL_at d q fi n r (k + 1) j f (by simpa using h)
    rw [needL, List.getElem?_cons_succ, this, show k + 1 + j = k + (j + 1) by omega]
end Go.Proofs.YtaoncnlhilpgfaaDoor
