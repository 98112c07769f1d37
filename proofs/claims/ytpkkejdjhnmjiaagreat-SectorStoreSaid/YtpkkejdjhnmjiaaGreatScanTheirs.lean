/- Contract of the law's Theirs (layer scan): the same blocks. -/
import Derived.Test.YtpkkejdjhnmjiaaGreatScanMath
import Derived.Test.YtpkkejdjhnmjiaaGreatBuild
import Derived.Test.YtpkkejdjhnmjiaaGreatScanEq
import Derived.BigRegion
import Derived.Deep.DeepCutAuto
import Derived.Deep.AppendLies
import Derived.Deep.LoopGhost
import Derived.Deep.Light
import Derived.Test.YtpkkejdjhnmjiaaGreatScanRef
namespace Go.Proofs.YtpkkejdjhnmjiaaGreat.Theirs
open Go.RowKit Bm
attribute [local go_sem] bk_head bk_count
theorem own_turned {S : Nat → Prop} {w w' : World} {base n k : Nat} {t : TypeId} {v : Value} {xs : List Value} (h : w.ownsRow base t k v n xs) (hT : Turned S w w') (hS : ∀ g, v.ownBlock = some g → ¬ S g) : w'.ownsRow base t k v n xs := by
  obtain ⟨hl, h⟩ := h
  rcases h with h | ⟨g, cap, cur, rfl, hb, hg, r⟩
  · exact ⟨hl, .inl h⟩
  · exact ⟨hl, .inr ⟨g, cap, cur, rfl, hb, (hT.block g (Array.getElem?_eq_some_iff.1 hg).1 (hS g rfl)).trans hg, r⟩⟩
def copied (l : List PageM) (k : Nat) : List PageM := (List.range k).foldl (fun acc i => acc.set i (pgN l i)) (List.replicate 8 pg0)
def part (b : BlkM) (k : Nat) : BlkM := { head := b.head, count := b.count, kinds := b.kinds, pages := copied b.pages k }
theorem bk_kinds_range {w : World} {g off : Nat} {b : BlkM} (h : BlkOk b) (hr : w.rangeAt g off (bkC b)) : w.rangeAt g (off + 2) (Is b.kinds) := fun j v hv => by
  have hj := (List.getElem?_eq_some_iff.1 hv).1
  rw [Is_length, h.k] at hj
  rw [Nat.add_assoc]
  refine hr (2 + j) v ?_
  rw [← hv, bk_kind h j hj, Is_get _ _ (by rw [h.k]; exact hj)]
end Go.Proofs.YtpkkejdjhnmjiaaGreat.Theirs
