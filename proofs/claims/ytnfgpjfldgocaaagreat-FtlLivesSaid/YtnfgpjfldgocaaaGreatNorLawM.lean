import Derived.Test.YtnfgpjfldgocaaaGreatNorA
import Derived.Test.YtnfgpjfldgocaaaGreatRows
import Derived.Test.YtnfgpjfldgocaaaGreatLaw
import Derived.Deep.QuietTactic
import Derived.BigQuiet
import Derived.Lib.Hide
namespace Go.Proofs.YtnfgpjfldgocaaaGreat
section
open Bm
theorem ones_eq : ones = BitVec.allOnes 32 := by decide
theorem gb_one (i : Int) (h0 : 0 <= i) (h1 : i < 32) : gb ones i = true := by rw [ones_eq, gb_ones]; simp [h0, h1]
theorem turnB_ones (k : Int) : turnB ones k = ones := by
 apply gb_ext; intro i h0 h1
 rw [gb_turn _ _ _ h0 h1, gb_one i h0 h1, gb_one _ (by omega) (by omega)]
structure Plain (c : ChipM) : Prop where
 up : c.up = true
 left : c.left = 0
end
section
open Go.RowKit Bm
theorem ReadsU.of_at {w : World} {g cap : Nat} {xs : List (BitVec 32)} {rest : List Value} (h : At w g 38 (Us xs ++ rest)) (hl : (Us xs ++ rest).length = cap) (hm : cap <= maxLen) : ReadsU w (some ⟨g, 0, none⟩) xs.length cap xs :=
 ⟨rfl, by rw [<- hl, List.length_append, Us_length]; omega, hm, fun _ => ⟨_, rfl, h.lt, fun j u hu => by
  have e : (⟨g, 0, none⟩ : Addr).add j = ⟨g, j, none⟩ := by unfold Addr.add; split <;> simp_all
  rw [e, h.cell, List.getElem?_append_left (List.getElem?_eq_some_iff.1 hu).1]
  exact hu⟩⟩
end
end Go.Proofs.YtnfgpjfldgocaaaGreat
