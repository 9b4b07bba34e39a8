/- Layer 7: the document's example, as a call. -/
import Derived.Test.YtjpemelnnemmiaaCal
namespace Go.Proofs.Ytjpemelnnemmiaa
open Go.RowKit
theorem awake_calls (w : World) : Calls Try.prog 8 #[] w fun x w' => x = .returned (.bool true) ∧ Below w.heap.size w w' := awake_any w
end Go.Proofs.Ytjpemelnnemmiaa
