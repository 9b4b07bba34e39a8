/- Layer 8: what the program's Why, Need answer (premises). -/
import Derived.Test.YtaoncnlhilpgfaaDoorNdc
namespace Go.Proofs.YtaoncnlhilpgfaaDoor
open Go.ChangeShapes Go.WideShapes Go.ChangeAt Go.RowKit
set_option linter.unusedVariables false
set_option linter.unusedSimpArgs false

def WhySays : Prop := ∀ (d q e : Int) (f : ByteArray) (al fi : Bool) (w : World), 0 ≤ d → d ≤ 255 → 0 ≤ q → q ≤ 255 → rightB d q e = true → f.size ≤ 1000000 →
  Calls Tryd.prog 59 #[.agg #[.int .u8 d, .int .u8 q, .int .i64 e], .string f, .bool al, .bool fi] w fun x w' => x = .returned (.int .i64 (whyN d q (bl f) al fi)) ∧ Below w.heap.size w w'
def needB (d q : Int) (f : ByteArray) (al fi : Bool) : Bool := decide (whyN d q (bl f) al fi ≠ 0)
def NeedSays : Prop := ∀ (d q e : Int) (f : ByteArray) (al fi : Bool) (w : World), 0 ≤ d → d ≤ 255 → 0 ≤ q → q ≤ 255 → rightB d q e = true → f.size ≤ 1000000 →
  Calls Tryd.prog 54 #[.agg #[.int .u8 d, .int .u8 q, .int .i64 e], .string f, .bool al, .bool fi] w fun x w' => x = .returned (.bool (needB d q f al fi)) ∧ Below w.heap.size w w'
end Go.Proofs.YtaoncnlhilpgfaaDoor
