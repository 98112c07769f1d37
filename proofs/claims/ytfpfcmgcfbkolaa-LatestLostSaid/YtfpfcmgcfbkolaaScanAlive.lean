/- The answers that layer scan's statements begin with. -/
import Derived.Test.YtfpfcmgcfbkolaaScanBuilt
import Derived.Test.YtfpfcmgcfbkolaaScan3
import Derived.Test.YtfpfcmgcfbkolaaHeld
import Derived.Deep.RegionWith
namespace Go.Proofs.Ytfpfcmgcfbkolaa
open Go.RowKit Bm

attribute [local go_sem ↓] ldS_eq

def pgL : PageM := ⟨3#32, 5#32, false, 0#32, 0#32, 0#32, 0#32⟩
def blA : BlkM := ⟨1, 0#32, [1, 0, 0, 0, 0, 0, 0, 0], [pgL, pg0, pg0, pg0, pg0, pg0, pg0, pg0]⟩
def blB : BlkM := ⟨1, 1#32, [0, 0, 0, 0, 0, 0, 0, 0], [pg0, pg0, pg0, pg0, pg0, pg0, pg0, pg0]⟩
theorem alive_found : scOf (bltPre [[pgL], []] 2) = ([blA, blB], 0) := by decide +kernel
theorem alive_none : scOf [] = ([], 8) := by decide +kernel
theorem below_then {a b c : World} (h : Below a.heap.size a b) (k : Below b.heap.size b c) : Below a.heap.size a c := h.trans (k.mono h.size)

end Go.Proofs.Ytfpfcmgcfbkolaa
