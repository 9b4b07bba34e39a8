/- Layer 6: the document's own reader in memory; contracts of its short words. Layer 6: contracts of the document's reader: feed, second, add, width. Layer 6: contracts of the document's reader: add, width. -/
import Derived.Test.YtaoncnlhilpgfaaDoorRows
import Derived.Test.YtaoncnlhilpgfaaDoorZk
import Derived.Test.YtaoncnlhilpgfaaDoorZp
import Derived.Deep.QuietTactic
namespace Go.Proofs.YtaoncnlhilpgfaaDoor
open Go.ChangeShapes Go.WideShapes Go.ChangeAt Go.RowKit
set_option linter.unusedVariables false
set_option linter.unusedSimpArgs false

/-- What the reader has; its record, its records and their ends as they lie. -/
structure Rd where
  d : Int
  q : Int
  e : Int
  lf : Int
  ls : Int
  lr : Int
  un : Int
  s : ByteArray
  i : Nat
  bg : Int
  ro : Value
  rs : Value
  es : Value
  k : Int
  at_ : Nat
section
variable {g : Nat} {r r2 : Rd} {w w1 w2 : World}
end

end Go.Proofs.YtaoncnlhilpgfaaDoor

namespace Go.Proofs.YtaoncnlhilpgfaaDoor
open Go.ChangeShapes Go.WideShapes Go.ChangeAt Go.RowKit
set_option linter.unusedVariables false
set_option linter.unusedSimpArgs false

def fdN (e : Int) (b10 : Bool) : Int := if b10 = true then (if e = 2 then 0 else 1) else (if e = 1 then 0 else 2)
end Go.Proofs.YtaoncnlhilpgfaaDoor

namespace Go.Proofs.YtaoncnlhilpgfaaDoor
open Go.ChangeShapes Go.WideShapes Go.ChangeAt Go.RowKit
set_option linter.unusedVariables false
set_option linter.unusedSimpArgs false

end Go.Proofs.YtaoncnlhilpgfaaDoor
