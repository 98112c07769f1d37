/- Slices of blocks: what they read as. -/
import Derived.Test.YtfpfcmgcfbkolaaScanMath
import Derived.Test.YtfpfcmgcfbkolaaMid
import Derived.Test.YtfpfcmgcfbkolaaLaw
namespace Go.Proofs.Ytfpfcmgcfbkolaa
open Go.RowKit Bm

def bkN (bs : List BlkM) (i : Nat) : BlkM := bs.getD i bk0
theorem bkN_get {bs : List BlkM} {i : Nat} (h : i < bs.length) : bs[i]? = some (bkN bs i) := by
  unfold bkN
  rw [List.getD_eq_getElem?_getD, List.getElem?_eq_getElem h]
  rfl
/-- A slice (nil too) reads as these blocks. -/
structure ReadsB (w : World) (A : Option Addr) (n cap : Nat) (bs : List BlkM) : Prop where
  len : bs.length = n
  le : n ≤ cap
  max : cap ≤ maxLen
  ok : ∀ b ∈ bs, BlkOk b
  cell : 0 < n → ∃ g off, A = some ⟨g, off, none⟩ ∧ g < w.heap.size ∧ ∀ j b, bs[j]? = some b → w.rangeAt g (off + j * 66) (bkC b)
theorem range_kept {w w' : World} {g off : Nat} {cs : List Value} (h : w.rangeAt g off cs) (hb : w'.heap[g]? = w.heap[g]?) : w'.rangeAt g off cs := fun j v hv => (World.cell?_of_block (a := ⟨g, off + j, none⟩) hb).trans (h j v hv)
section
variable {w w' : World} {A : Option Addr} {n cap : Nat} {bs : List BlkM}
theorem ReadsB.kept (h : ReadsB w A n cap bs) (hB : Below w.heap.size w w') : ReadsB w' A n cap bs :=
  ⟨h.len, h.le, h.max, h.ok, fun hn => by
    obtain ⟨g, off, e, hlt, hc⟩ := h.cell hn
    exact ⟨g, off, e, Nat.lt_of_lt_of_le hlt hB.size, fun j b hb => range_kept (hc j b hb) (hB.block g hlt)⟩⟩
theorem ReadsB.at_ (h : ReadsB w A n cap bs) {j : Nat} (hj : j < n) : ∃ g off, A = some ⟨g, off, none⟩ ∧ g < w.heap.size ∧ w.rangeAt g (off + j * 66) (bkC (bkN bs j)) := by
  obtain ⟨g, off, e, hlt, hc⟩ := h.cell (by omega)
  exact ⟨g, off, e, hlt, hc j _ (bkN_get (by rw [h.len]; exact hj))⟩
theorem ReadsB.okN (h : ReadsB w A n cap bs) {j : Nat} (hj : j < n) : BlkOk (bkN bs j) := h.ok _ (List.mem_of_getElem? (bkN_get (by rw [h.len]; exact hj)))
end
/-- The cells of blocks, one behind the other. -/
def bks (bs : List BlkM) : List Value := bs.flatMap bkC
theorem bks_len {bs : List BlkM} (h : ∀ b ∈ bs, BlkOk b) : (bks bs).length = 66 * bs.length := by
  unfold bks
  induction bs with
  | nil => rfl
  | cons b bs ih => rw [List.flatMap_cons, List.length_append, bk_len (h b (by simp)), ih (fun c hc => h c (by simp [hc])), List.length_cons]; omega
theorem bks_one (bs : List BlkM) : ∀ u ∈ bks bs, u.oneCell' = true := by
  intro u hu
  obtain ⟨b, _, h⟩ := List.mem_flatMap.1 hu
  exact bk_one b u h
theorem bks_snoc (bs : List BlkM) (b : BlkM) : bks (bs ++ [b]) = bks bs ++ bkC b := by simp [bks]
theorem bks_get {bs : List BlkM} (h : ∀ b ∈ bs, BlkOk b) {j : Nat} {b : BlkM} (hj : bs[j]? = some b) (i : Nat) (v : Value) (hv : (bkC b)[i]? = some v) : (bks bs)[j * 66 + i]? = some v := by
  induction bs generalizing j with
  | nil => simp at hj
  | cons c bs ih =>
    unfold bks at ih ⊢
    rw [List.flatMap_cons]
    have hl := bk_len (h c (by simp))
    cases j with
    | zero =>
      simp only [List.getElem?_cons_zero, Option.some.injEq] at hj
      subst hj
      rw [Nat.zero_mul, Nat.zero_add, List.getElem?_append_left (List.getElem?_eq_some_iff.1 hv).1, hv]
    | succ j =>
      rw [List.getElem?_cons_succ] at hj
      rw [List.getElem?_append_right (by omega), hl, show (j + 1) * 66 + i - 66 = j * 66 + i by omega]
      exact ih (fun d hd => h d (by simp [hd])) hj
theorem ReadsB.of_at {w : World} {g cap : Nat} {t : TypeId} {bs : List BlkM} {rest : List Value} (hA : At w g t (bks bs ++ rest)) (hb : ∀ b ∈ bs, BlkOk b) (hc : bs.length ≤ cap) (hm : cap ≤ maxLen) : ReadsB w (some ⟨g, 0, none⟩) bs.length cap bs :=
  ⟨rfl, hc, hm, hb, fun _ => ⟨g, 0, rfl, hA.lt, fun j b hj i v hv => by
    rw [hA.cell, Nat.zero_add, List.getElem?_append_left]
    · exact bks_get hb hj i v hv
    · exact (List.getElem?_eq_some_iff.1 (bks_get hb hj i v hv)).1⟩⟩
theorem ReadsB.none (w : World) : ReadsB w none 0 0 [] := ⟨rfl, Nat.le_refl _, Nat.zero_le _, fun b hb => (by cases hb), fun h => absurd h (by omega)⟩
/-- A block's cells in its own box. -/
theorem At.rng {w : World} {g : Nat} {t : TypeId} {cs : List Value} (h : At w g t cs) : w.rangeAt g 0 cs := fun j v hv => by rw [Nat.zero_add]; exact (h.cell j).trans hv
theorem bkCounts_step (bs : List BlkM) (j : Nat) (h : j < bs.length) : bkCounts (bs.take (j + 1)) = bkMax (bkCounts (bs.take j)) (bkN bs j) := by
  unfold bkCounts
  rw [List.take_add_one, bkN_get h]
  simp
end Go.Proofs.Ytfpfcmgcfbkolaa
