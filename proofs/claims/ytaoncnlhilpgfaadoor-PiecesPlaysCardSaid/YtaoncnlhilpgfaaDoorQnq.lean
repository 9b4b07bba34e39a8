/- Layer 9: what the program's Quoted answers (premise). -/
import Derived.Test.YtaoncnlhilpgfaaDoorQna
namespace Go.Proofs.YtaoncnlhilpgfaaDoor
open Go.ChangeShapes Go.WideShapes Go.ChangeAt Go.RowKit
set_option linter.unusedVariables false
set_option linter.unusedSimpArgs false

def QuotedSays : Prop := ∀ (d q e : Int) (f : ByteArray) (w : World), 0 ≤ d → d ≤ 255 → 0 ≤ q → q ≤ 255 → rightB d q e = true → f.size ≤ 1000 →
  Calls Tryd.prog 47 #[.agg #[.int .u8 d, .int .u8 q, .int .i64 e], .string f] w fun x w' => x = .returned (.string (quoO q f)) ∧ Below w.heap.size w w'
end Go.Proofs.YtaoncnlhilpgfaaDoor
