import Derived.Test.YtnfgpjfldgocaaaGreatScanMath
import Derived.BigRegion
import Derived.Deep.DeepCutAuto
import Derived.Test.YtnfgpjfldgocaaaGreatScan3
import Derived.Test.YtnfgpjfldgocaaaGreatPageRef4
namespace Go.Proofs.YtnfgpjfldgocaaaGreat
section
open Go.RowKit Bm
attribute [local go_sem] bk_head bk_count
end
section
open Go.RowKit Bm
attribute [local go_sem] bk_head bk_count
end
section
open Go.RowKit Bm
end
end Go.Proofs.YtnfgpjfldgocaaaGreat
