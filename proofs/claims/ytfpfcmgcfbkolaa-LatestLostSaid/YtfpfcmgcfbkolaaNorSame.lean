/- The document's comparison of two rows of words: of rows that read as the same words it is true. -/
import Derived.Test.YtfpfcmgcfbkolaaRows
import Derived.Test.YtfpfcmgcfbkolaaLaw
import Derived.Deep.QuietTactic
import Derived.BigQuiet
import Derived.Lib.Hide
namespace Go.Proofs.Ytfpfcmgcfbkolaa
open Go.RowKit Bm

theorem ReadsU.of_at {w : World} {g cap : Nat} {xs : List (BitVec 32)} {rest : List Value} (h : At w g 34 (Us xs ++ rest)) (hl : (Us xs ++ rest).length = cap) (hm : cap ≤ maxLen) : ReadsU w (some ⟨g, 0, none⟩) xs.length cap xs :=
  ⟨rfl, by rw [← hl, List.length_append, Us_length]; omega, hm, fun _ => ⟨_, rfl, h.lt, fun j u hu => by
    have e : (⟨g, 0, none⟩ : Addr).add j = ⟨g, j, none⟩ := by unfold Addr.add; split <;> simp_all
    rw [e, h.cell, List.getElem?_append_left (List.getElem?_eq_some_iff.1 hu).1]
    exact hu⟩⟩
theorem ReadsU.drewN {w : World} {A : Option Addr} {n cap : Nat} {xs : List (BitVec 32)} (h : ReadsU w A n cap xs) (m : Nat) : ReadsU (w.drewN m) A n cap xs := ⟨h.len, h.le, h.max, h.cell⟩

end Go.Proofs.Ytfpfcmgcfbkolaa
