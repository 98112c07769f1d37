/- Contract of the law's Built (layer scan): the words of blocks that are written out. -/
import Derived.Test.YtpkkejdjhnmjiaaGreatScanMath
import Derived.Test.YtpkkejdjhnmjiaaGreatMid
import Derived.Test.YtpkkejdjhnmjiaaGreatNorBR
import Derived.Test.YtpkkejdjhnmjiaaGreatPageRef4
import Derived.Test.YtpkkejdjhnmjiaaGreatOpens
import Derived.BigRegion
import Derived.Deep.DeepCutAuto
import Derived.Deep.AppendLies
import Derived.Deep.LoopGhost
import Derived.Deep.Light
import Derived.Lib.Hide
namespace Go.Proofs.YtpkkejdjhnmjiaaGreat
open Go.RowKit Bm
structure ReadsP (w : World) (A : Option Addr) (n cap : Nat) (ps : List PageM) : Prop where
  len : ps.length = n
  le : n ≤ cap
  max : cap ≤ maxLen
  cell : 0 < n → ∃ g off, A = some ⟨g, off, none⟩ ∧ g < w.heap.size ∧ ∀ j p, ps[j]? = some p → w.rangeAt g (off + j * 7) (pgC p)
structure ReadsPP (w : World) (A : Option Addr) (n cap : Nat) (ll : List (List PageM)) : Prop where
  len : ll.length = n
  le : n ≤ cap
  max : cap ≤ maxLen
  cell : 0 < n → ∃ ad, A = some ad ∧ ad.block < w.heap.size ∧ ∀ j ps, ll[j]? = some ps → ∃ Aj nj cj, w.cell? (ad.add j) = some (.slice Aj nj cj) ∧ ReadsP w Aj nj cj ps
theorem rng_kept {w w' : World} {g off : Nat} {cs : List Value} (h : w.rangeAt g off cs) (hb : w'.heap[g]? = w.heap[g]?) : w'.rangeAt g off cs := fun j v hv => (World.cell?_of_block (a := ⟨g, off + j, none⟩) hb).trans (h j v hv)
section
variable {w w' : World} {A : Option Addr} {n cap : Nat}
theorem ReadsP.kept {ps : List PageM} (h : ReadsP w A n cap ps) (hB : Below w.heap.size w w') : ReadsP w' A n cap ps :=
  ⟨h.len, h.le, h.max, fun hn => by
    obtain ⟨g, off, e, hlt, hc⟩ := h.cell hn
    exact ⟨g, off, e, Nat.lt_of_lt_of_le hlt hB.size, fun j p hp => rng_kept (hc j p hp) (hB.block g hlt)⟩⟩
theorem ReadsPP.kept {ll : List (List PageM)} (h : ReadsPP w A n cap ll) (hB : Below w.heap.size w w') : ReadsPP w' A n cap ll :=
  ⟨h.len, h.le, h.max, fun hn => by
    obtain ⟨ad, e, hlt, hc⟩ := h.cell hn
    refine ⟨ad, e, Nat.lt_of_lt_of_le hlt hB.size, fun j ps hp => ?_⟩
    obtain ⟨Aj, nj, cj, h1, h2⟩ := hc j ps hp
    exact ⟨Aj, nj, cj, (hB.cell (p := ad.add j) (by rw [add_block]; exact hlt)).trans h1, h2.kept hB⟩⟩
theorem ReadsP.at_ {ps : List PageM} (h : ReadsP w A n cap ps) {j : Nat} (hj : j < n) : ∃ g off, A = some ⟨g, off, none⟩ ∧ w.rangeAt g (off + j * 7) (pgC (pgN ps j)) := by
  obtain ⟨g, off, e, _, hc⟩ := h.cell (by omega)
  refine ⟨g, off, e, hc j _ ?_⟩
  unfold pgN
  rw [List.getD_eq_getElem?_getD, List.getElem?_eq_getElem (by rw [h.len]; exact hj)]
  rfl
theorem ReadsPP.at_ {ll : List (List PageM)} (h : ReadsPP w A n cap ll) {j : Nat} (hj : j < n) : ∃ ad Aj nj cj, A = some ad ∧ ad.block < w.heap.size ∧ w.cell? (ad.add j) = some (.slice Aj nj cj) ∧ ReadsP w Aj nj cj (ll.getD j []) := by
  obtain ⟨ad, e, hlt, hc⟩ := h.cell (by omega)
  obtain ⟨Aj, nj, cj, h1, h2⟩ := hc j (ll.getD j []) (by rw [List.getD_eq_getElem?_getD, List.getElem?_eq_getElem (by rw [h.len]; exact hj)]; rfl)
  exact ⟨ad, Aj, nj, cj, e, hlt, h1, h2⟩
end
theorem ReadsU.news {w : World} {A : Option Addr} {n cap : Nat} {xs : List (BitVec 32)} (h : ReadsU w A n cap xs) (hn : 0 < n) : ∃ ad, A = some ad ∧ ∀ j u, (Us xs)[j]? = some u → w.cell? (ad.add j) = some u := by
  obtain ⟨ad, e, _, hc⟩ := h.cell hn
  exact ⟨ad, e, hc⟩
end Go.Proofs.YtpkkejdjhnmjiaaGreat
