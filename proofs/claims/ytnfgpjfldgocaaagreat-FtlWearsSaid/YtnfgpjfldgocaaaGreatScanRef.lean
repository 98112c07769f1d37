/- Contracts of the document's Next, Empty, Counts (layer scan). | Contract of the document's block (layer scan). | Contract of the document's Words (layer scan). -/
import Derived.Test.YtnfgpjfldgocaaaGreatScanMath
import Derived.BigRegion
import Derived.Deep.DeepCutAuto
import Derived.Test.YtnfgpjfldgocaaaGreatScan3
import Derived.Test.YtnfgpjfldgocaaaGreatPageRef4
namespace Go.Proofs.YtnfgpjfldgocaaaGreat
open Go.RowKit Bm
attribute [local go_sem] bk_head bk_count
end Go.Proofs.YtnfgpjfldgocaaaGreat
namespace Go.Proofs.YtnfgpjfldgocaaaGreat
open Go.RowKit Bm
attribute [local go_sem] bk_head bk_count
end Go.Proofs.YtnfgpjfldgocaaaGreat
namespace Go.Proofs.YtnfgpjfldgocaaaGreat
open Go.RowKit Bm
end Go.Proofs.YtnfgpjfldgocaaaGreat
