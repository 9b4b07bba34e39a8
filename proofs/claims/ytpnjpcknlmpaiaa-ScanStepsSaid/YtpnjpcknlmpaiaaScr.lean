/- Layer 4: what is asked of the document's own Step (proved in another text), so that the statements' walks build beside it. -/
import Derived.Test.YtpnjpcknlmpaiaaSce
namespace Go.Proofs.Ytpnjpcknlmpaiaa
open Go.ChangeShapes Go.WideShapes Go.ChangeAt Go.RowKit
set_option linter.unusedVariables false
abbrev RefStepIs : Prop := ∀ (d q e s b : Int) (_ : 0 ≤ s) (_ : s ≤ 6) (_ : Hid (right4 d q e = true)) (bg ad fi li re : Bool) (pb n k : Int) (_ : Hid (stepR d q e s b = ⟨⟨bg, ad, fi, li, re, pb⟩, n, k⟩)) (w : World),
    Calls Try.prog 11 #[.agg #[.int .i64 d, .int .i64 q, .int .i64 e], .int .i64 s, .int .i64 b] w fun x w' =>
      x = .returned (.tuple #[.agg #[.int .i64 (bitI bg), .int .i64 (bitI ad), .int .i64 (bitI fi), .int .i64 (bitI li), .int .i64 (bitI re), .int .i64 pb], .int .i64 n, .int .i64 k]) ∧ Below w.heap.size w w'
end Go.Proofs.Ytpnjpcknlmpaiaa
