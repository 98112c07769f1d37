import Derived.Test.YtnfgpjfldgocaaaGreatPageRef
import Derived.BigRegion
import Derived.Deep.DeepCutAuto
import Derived.Deep.RegionHeld3
import Derived.Lib.Hide
namespace Go.Proofs.YtnfgpjfldgocaaaGreat
open Go.RowKit Bm
theorem ReadsU.lt {w : World} {a : Addr} {n cap : Nat} {xs : List (BitVec 32)} (h : ReadsU w (some a) n cap xs) (hn : 0 < n) : a.block < w.heap.size := by
 obtain ⟨b, e, hl, _⟩ := h.cell hn
 injection e with e
 rw [e]; exact hl
end Go.Proofs.YtnfgpjfldgocaaaGreat
