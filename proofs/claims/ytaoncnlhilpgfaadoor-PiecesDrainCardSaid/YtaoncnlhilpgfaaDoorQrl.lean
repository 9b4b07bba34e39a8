/- Layer 10: what the program's Line answers (premise). -/
import Derived.Test.YtaoncnlhilpgfaaDoorQrs
namespace Go.Proofs.YtaoncnlhilpgfaaDoor
open Go.ChangeShapes Go.WideShapes Go.ChangeAt Go.RowKit
set_option linter.unusedVariables false
set_option linter.unusedSimpArgs false

def LineSays : Prop := ∀ (d q e : Int) (r : List ByteArray) (A : Option Addr) (n c : Nat) (fi : Bool) (w : World), 0 ≤ d → d ≤ 255 → 0 ≤ q → q ≤ 255 → n ≤ 1000 → lenL r ≤ 1000 → Hid (SlIn w A n (strs r)) →
  Calls Tryd.prog 28 #[.agg #[.int .u8 d, .int .u8 q, .int .i64 e], .slice A n c, .bool fi] w fun x w' => x = .returned (.tuple #[.string (lineS d q e fi r), .int .i64 (lineE d q e r)]) ∧ Below w.heap.size w w'
end Go.Proofs.YtaoncnlhilpgfaaDoor
