import Derived.Test.YtnfgpjfldgocaaaGreatLaw
import Derived.Deep.Slices
import Derived.Deep.Fields
import Derived.ChangeSame
namespace Go.Proofs.YtnfgpjfldgocaaaGreat
open Go.ChangeShapes Go.WideShapes Go.ChangeAt Go.RowKit Bm
section
variable {H : Type} {enc : TypeId × Value -> H} {W : World}
end
end Go.Proofs.YtnfgpjfldgocaaaGreat
