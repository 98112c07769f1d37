/- Plain mathematics of layer nor's statements: bits that a change in part leaves, and what the plain chip does. | The document's comparison of two rows of words: of rows that read as the same words it is true. -/
import Derived.Test.YtnfgpjfldgocaaaGreatNorA
import Derived.Test.YtnfgpjfldgocaaaGreatRows
import Derived.Test.YtnfgpjfldgocaaaGreatLaw
import Derived.Deep.QuietTactic
import Derived.BigQuiet
import Derived.Lib.Hide
namespace Go.Proofs.YtnfgpjfldgocaaaGreat
open Bm

theorem ones_eq : ones = BitVec.allOnes 32 := by decide
theorem gb_one (i : Int) (h0 : 0 ≤ i) (h1 : i < 32) : gb ones i = true := by rw [ones_eq, gb_ones]; simp [h0, h1]
theorem partB_ones (x y : BitVec 32) : partB x y ones = y := by
  apply gb_ext; intro i h0 h1
  rw [gb_part, gb_one i h0 h1]; rfl
theorem turnB_ones (k : Int) : turnB ones k = ones := by
  apply gb_ext; intro i h0 h1
  rw [gb_turn _ _ _ h0 h1, gb_one i h0 h1, gb_one _ (by omega) (by omega)]
/-! ### A chip without a fuse, with power -/
structure Plain (c : ChipM) : Prop where
  up : c.up = true
  left : c.left = 0
theorem Plain.pick {c : ChipM} (h : Plain c) : mPick c = ones := by unfold mPick; rw [if_neg (by rw [h.left]; decide)]
theorem Plain.err {c : ChipM} (h : Plain c) : mErr c = 0 := by unfold mErr; rw [if_neg (by rw [h.left]; decide)]
theorem Plain.change {c : ChipM} (h : Plain c) : mChange c = c := by unfold mChange; rw [if_pos h.left]
theorem Plain.refuse {c : ChipM} (h : Plain c) (n m : Int) (h0 : 0 ≤ n) (h1 : n < m) : mRefuse c n m = 0 := by
  unfold mRefuse
  rw [if_neg (by rw [h.up]; decide), if_neg (by omega)]
theorem Plain.program {c : ChipM} (h : Plain c) (i : Nat) (v : BitVec 32) (hi : i < c.ws.length) : mProgram c i v = ({ c with ws := c.ws.set i (wd c.ws i &&& v) }, 0) := by
  unfold mProgram
  rw [if_pos (h.refuse _ _ (by omega) (by omega))]
  unfold mProgramDo
  rw [h.pick, h.err, h.change, partB_ones]
  rfl
theorem Plain.read {c : ChipM} (h : Plain c) (i : Nat) (hi : i < c.ws.length) : mRead c i = (wd c.ws i, 0) := by
  unfold mRead
  rw [if_pos (h.refuse _ _ (by omega) (by omega))]
  rfl
theorem Plain.erase {c : ChipM} (h : Plain c) (b : Nat) (hb : b < c.wear.length) (hw : nm c.wear b < c.endure) : mErase c b = ({ c with wear := c.wear.set b (nm c.wear b + 1), ws := eraseTo c.ws b 64 ones }, 0) := by
  unfold mErase
  rw [if_pos (h.refuse _ _ (by omega) (by omega)), if_neg (show ¬ c.endure ≤ nm c.wear (b : Int).toNat by rw [show ((b : Int).toNat) = b from rfl]; omega)]
  unfold mEraseDo
  rw [h.pick, h.err, h.change]
  rfl
theorem Plain.worn {c : ChipM} (h : Plain c) (b : Nat) (hb : b < c.wear.length) (hw : c.endure ≤ nm c.wear b) : mErase c b = (c, 5) := by
  unfold mErase
  rw [if_pos (h.refuse _ _ (by omega) (by omega)), if_pos (show c.endure ≤ nm c.wear (b : Int).toNat by rw [show ((b : Int).toNat) = b from rfl]; omega)]
theorem Plain.new (k : Nat) (e : Int) : Plain (mNew k e) := ⟨rfl, rfl⟩
/-- NorWorn: a chip of two blocks whose second one was erased j times. -/
def wornAt (k : Int) (j : Nat) : ChipM := { mNew 2 k with wear := [0, (j : Int)] }
/-- .. and then its seventieth word programmed. -/
def wornBy (k : Int) (j : Nat) (v : BitVec 32) : ChipM := { wornAt k j with ws := (wornAt k j).ws.set 70 v }
/-! ### A chip whose fuse burns in the next change -/
structure Fused (c : ChipM) : Prop where
  up : c.up = true
  left : c.left = 1
theorem Fused.pick {c : ChipM} (h : Fused c) : mPick c = c.pick := by unfold mPick; rw [if_pos h.left]
theorem Fused.err {c : ChipM} (h : Fused c) : mErr c = 4 := by unfold mErr; rw [if_pos h.left]
theorem Fused.change {c : ChipM} (h : Fused c) : mChange c = { c with left := 0, up := false } := by
  unfold mChange
  rw [if_neg (by rw [h.left]; decide), if_pos h.left]
theorem Fused.refuse {c : ChipM} (h : Fused c) (n m : Int) (h0 : 0 ≤ n) (h1 : n < m) : mRefuse c n m = 0 := by
  unfold mRefuse
  rw [if_neg (by rw [h.up]; decide), if_neg (by omega)]
theorem Fused.program {c : ChipM} (h : Fused c) (i : Nat) (v : BitVec 32) (hi : i < c.ws.length) : mProgram c i v = ({ c with left := 0, up := false, ws := c.ws.set i (partB (wd c.ws i) (wd c.ws i &&& v) c.pick) }, 4) := by
  unfold mProgram
  rw [if_pos (h.refuse _ _ (by omega) (by omega))]
  unfold mProgramDo
  rw [h.pick, h.err, h.change]
  rfl
theorem Fused.erase {c : ChipM} (h : Fused c) (b : Nat) (hb : b < c.wear.length) (hw : nm c.wear b < c.endure) : mErase c b = ({ c with left := 0, up := false, wear := c.wear.set b (nm c.wear b + 1), ws := eraseTo c.ws b 64 c.pick }, 4) := by
  unfold mErase
  rw [if_pos (h.refuse _ _ (by omega) (by omega)), if_neg (show ¬ c.endure ≤ nm c.wear (b : Int).toNat by rw [show ((b : Int).toNat) = b from rfl]; omega)]
  unfold mEraseDo
  rw [h.pick, h.err, h.change]
  rfl
/-! ### NorPart -/
def pX (w v p : BitVec 32) : BitVec 32 := partB w (w &&& v) p
def pY (w v p : BitVec 32) : BitVec 32 := partB (pX w v p) ones (turnB p 7)
def pt0 : ChipM := mNew 1 5
def pt1 (w : BitVec 32) : ChipM := { pt0 with ws := pt0.ws.set 7 w }
def pt2 (w p : BitVec 32) : ChipM := { pt1 w with left := 1, pick := p }
def pt3 (w v p : BitVec 32) : ChipM := { pt0 with up := false, ws := (pt1 w).ws.set 7 (pX w v p), pick := p }
def pt4 (w v p : BitVec 32) : ChipM := { pt3 w v p with up := true }
def pt5 (w v p : BitVec 32) : ChipM := { pt4 w v p with left := 1 }
def pt6 (w v p : BitVec 32) : ChipM := { pt3 w v p with wear := [1], ws := eraseTo (pt3 w v p).ws 0 64 p }
def pt7 (w v p : BitVec 32) : ChipM := { pt6 w v p with up := true }
/-! ### NorMeets -/
def meetAt (k : Nat) (m : BitVec 32) : ChipM := { mNew 2 0 with ws := (mNew 2 0).ws.set k m }
/-- The bits that the first j words all have. -/
def meet (xs : List (BitVec 32)) (j : Nat) : BitVec 32 := (xs.take j).foldl (fun a b => a &&& b) ones
/-! ### NorFuses -/
/-- Ahead of the i-th change of a chip whose fuse burns at the stop-th one. -/
def FuseSt (stop i : Nat) (c : ChipM) : Prop := ChipOk 2 c ∧ ((i < stop ∧ c.up = true ∧ c.left = (stop : Int) - (i : Int)) ∨ (stop ≤ i ∧ c.up = false))
def fuse0 (stop : Nat) : ChipM := mFuse (mNew 2 10) stop 0#32
/-! ### NorCells -/
/-- What may have become of a word: erased, or no bit was set, and it is the one that was named if it is not as it was. -/
def CellStep (e : Bool) (old new : BitVec 32) (t a : Int) : Prop := e = true ∨ (new &&& ~~~old = 0#32 ∧ (old = new ∨ t = a))
end Go.Proofs.YtnfgpjfldgocaaaGreat

namespace Go.Proofs.YtnfgpjfldgocaaaGreat
open Go.RowKit Bm

theorem ReadsU.of_at {w : World} {g cap : Nat} {xs : List (BitVec 32)} {rest : List Value} (h : At w g 38 (Us xs ++ rest)) (hl : (Us xs ++ rest).length = cap) (hm : cap ≤ maxLen) : ReadsU w (some ⟨g, 0, none⟩) xs.length cap xs :=
  ⟨rfl, by rw [← hl, List.length_append, Us_length]; omega, hm, fun _ => ⟨_, rfl, h.lt, fun j u hu => by
    have e : (⟨g, 0, none⟩ : Addr).add j = ⟨g, j, none⟩ := by unfold Addr.add; split <;> simp_all
    rw [e, h.cell, List.getElem?_append_left (List.getElem?_eq_some_iff.1 hu).1]
    exact hu⟩⟩
theorem ReadsU.drewN {w : World} {A : Option Addr} {n cap : Nat} {xs : List (BitVec 32)} (h : ReadsU w A n cap xs) (m : Nat) : ReadsU (w.drewN m) A n cap xs := ⟨h.len, h.le, h.max, h.cell⟩

end Go.Proofs.YtnfgpjfldgocaaaGreat
