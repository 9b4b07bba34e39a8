/- Layer 7: the document's example over the program's At and By. -/
import Derived.Test.YtjpemelnnemmiaaWlw
import Derived.Test.YtjpemelnnemmiaaCat
import Derived.Test.YtjpemelnnemmiaaCby
import Derived.Test.YtjpemelnnemmiaaKit10
namespace Go.Proofs.Ytjpemelnnemmiaa
theorem awake_any : AwakeSays := awake7_any (Lib.hid at_any) (Lib.hid by_any)
end Go.Proofs.Ytjpemelnnemmiaa
