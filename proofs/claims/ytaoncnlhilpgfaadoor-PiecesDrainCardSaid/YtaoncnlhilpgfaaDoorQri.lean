/- Layer 10: the walk of WriteLess. -/
import Derived.Test.YtaoncnlhilpgfaaDoorQrf
import Derived.Test.YtaoncnlhilpgfaaDoorQrl
namespace Go.Proofs.YtaoncnlhilpgfaaDoor
open Go.ChangeShapes Go.WideShapes Go.ChangeAt Go.RowKit
set_option linter.unusedVariables false
set_option linter.unusedSimpArgs false

theorem rem_nat (x s : Int) (n : Nat) (hx : 0 ≤ x) (hn : 0 < n) (hs : s = n) : Int.tmod x s = ((x.toNat % n : Nat) : Int) := by
  subst hs
  obtain ⟨k, rfl⟩ := Int.eq_ofNat_of_zero_le hx
  rw [Int.toNat_natCast]
  exact (Int.natCast_emod k n ▸ (by rw [Int.tmod_eq_emod_of_nonneg (by omega)]))

end Go.Proofs.YtaoncnlhilpgfaaDoor
