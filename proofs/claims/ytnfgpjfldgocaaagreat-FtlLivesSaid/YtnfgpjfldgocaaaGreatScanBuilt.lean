import Derived.Test.YtnfgpjfldgocaaaGreatScanMath
import Derived.Test.YtnfgpjfldgocaaaGreatMid
import Derived.Test.YtnfgpjfldgocaaaGreatNorBR
import Derived.Test.YtnfgpjfldgocaaaGreatPageRef
import Derived.Test.YtnfgpjfldgocaaaGreatOpens
import Derived.BigRegion
import Derived.Deep.DeepCutAuto
import Derived.Deep.AppendLies
import Derived.Deep.LoopGhost
import Derived.Deep.Light
import Derived.Lib.Hide
namespace Go.Proofs.YtnfgpjfldgocaaaGreat
open Go.RowKit Bm
section
variable {w w' : World} {A : Option Addr} {n cap : Nat}
end
end Go.Proofs.YtnfgpjfldgocaaaGreat
