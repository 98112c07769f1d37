/- Contracts of the document's Next, Empty, Counts (layer scan). | Contract of the document's block (layer scan). | Contract of the document's Words (layer scan). -/
import Derived.Test.YtpkkejdjhnmjiaaGreatScanMath
import Derived.BigRegion
import Derived.Deep.DeepCutAuto
import Derived.Test.YtpkkejdjhnmjiaaGreatScan3
import Derived.Test.YtpkkejdjhnmjiaaGreatPageRef4
namespace Go.Proofs.YtpkkejdjhnmjiaaGreat
open Go.RowKit Bm
attribute [local go_sem] bk_head bk_count
end Go.Proofs.YtpkkejdjhnmjiaaGreat
namespace Go.Proofs.YtpkkejdjhnmjiaaGreat
open Go.RowKit Bm
attribute [local go_sem] bk_head bk_count
end Go.Proofs.YtpkkejdjhnmjiaaGreat
namespace Go.Proofs.YtpkkejdjhnmjiaaGreat
open Go.RowKit Bm
theorem ReadsB.of_own {w : World} {base : Nat} {t : TypeId} {v : Value} {bs : List BlkM} {n : Nat} (h : w.ownsRow base t 66 v n (bks bs)) (hb : ∀ b ∈ bs, BlkOk b) (hn : n = bs.length) : ∃ A cap, v = .slice A bs.length cap ∧ ReadsB w A bs.length cap bs := by
  subst hn
  have h0 := h
  rcases h.2 with ⟨rfl, e⟩ | ⟨g, cap, cur, rfl, _⟩
  · have : bs = [] := List.eq_nil_of_length_eq_zero e
    subst this
    exact ⟨Option.none, 0, rfl, ReadsB.none w⟩
  · obtain ⟨rest, hA, _, h2, h3, _⟩ := at_of_own h0
    exact ⟨_, cap, rfl, ReadsB.of_at hA hb h2 h3⟩
end Go.Proofs.YtpkkejdjhnmjiaaGreat
