/- Two rows of words compared, by the document's helper. -/
import Derived.Test.YtpkkejdjhnmjiaaGreatOpens
import Derived.Test.YtpkkejdjhnmjiaaGreatNorLawM
import Derived.Laws.Rows
import Derived.BigRegion
import Derived.Deep.QuietTactic
import Derived.BigQuiet
import Derived.Lib.Hide
namespace Go.Proofs.YtpkkejdjhnmjiaaGreat
open Go.RowKit Bm
theorem ext_wd {xs ys : List (BitVec 32)} (hl : xs.length = ys.length) (h : ∀ i, i < xs.length → wd xs i = wd ys i) : xs = ys := by
  apply List.ext_getElem hl
  intro i h1 h2
  have := h i h1
  unfold wd at this
  rw [List.getD_eq_getElem?_getD, List.getD_eq_getElem?_getD, List.getElem?_eq_getElem h1, List.getElem?_eq_getElem h2] at this
  exact this
end Go.Proofs.YtpkkejdjhnmjiaaGreat
