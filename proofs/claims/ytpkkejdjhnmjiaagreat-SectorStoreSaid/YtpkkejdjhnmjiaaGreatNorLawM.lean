/- Plain mathematics of layer nor's statements: bits that a change in part leaves, and what the plain chip does. | The document's comparison of two rows of words: of rows that read as the same words it is true. -/
import Derived.Test.YtpkkejdjhnmjiaaGreatNorA
import Derived.Test.YtpkkejdjhnmjiaaGreatRows
import Derived.Test.YtpkkejdjhnmjiaaGreatOpens
import Derived.Deep.QuietTactic
import Derived.BigQuiet
import Derived.Lib.Hide
namespace Go.Proofs.YtpkkejdjhnmjiaaGreat
open Bm
theorem ones_eq : ones = BitVec.allOnes 32 := by decide
theorem gb_one (i : Int) (h0 : 0 ≤ i) (h1 : i < 32) : gb ones i = true := by rw [ones_eq, gb_ones]; simp [h0, h1]
theorem partB_ones (x y : BitVec 32) : partB x y ones = y := by
  apply gb_ext; intro i h0 h1
  rw [gb_part, gb_one i h0 h1]; rfl
theorem turnB_ones (k : Int) : turnB ones k = ones := by
  apply gb_ext; intro i h0 h1
  rw [gb_turn _ _ _ h0 h1, gb_one i h0 h1, gb_one _ (by omega) (by omega)]
structure Plain (c : ChipM) : Prop where
  up : c.up = true
  left : c.left = 0
theorem Plain.pick {c : ChipM} (h : Plain c) : mPick c = ones := by unfold mPick; rw [if_neg (by rw [h.left]; decide)]
theorem Plain.err {c : ChipM} (h : Plain c) : mErr c = 0 := by unfold mErr; rw [if_neg (by rw [h.left]; decide)]
theorem Plain.change {c : ChipM} (h : Plain c) : mChange c = c := by unfold mChange; rw [if_pos h.left]
theorem Plain.refuse {c : ChipM} (h : Plain c) (n m : Int) (h0 : 0 ≤ n) (h1 : n < m) : mRefuse c n m = 0 := by
  unfold mRefuse
  rw [if_neg (by rw [h.up]; decide), if_neg (by omega)]
theorem Plain.program {c : ChipM} (h : Plain c) (i : Nat) (v : BitVec 32) (hi : i < c.ws.length) : mProgram c i v = ({ c with ws := c.ws.set i (wd c.ws i &&& v) }, 0) := by
  unfold mProgram
  rw [if_pos (h.refuse _ _ (by omega) (by omega))]
  unfold mProgramDo
  rw [h.pick, h.err, h.change, partB_ones]
  rfl
theorem Plain.read {c : ChipM} (h : Plain c) (i : Nat) (hi : i < c.ws.length) : mRead c i = (wd c.ws i, 0) := by
  unfold mRead
  rw [if_pos (h.refuse _ _ (by omega) (by omega))]
  rfl
theorem Plain.erase {c : ChipM} (h : Plain c) (b : Nat) (hb : b < c.wear.length) (hw : nm c.wear b < c.endure) : mErase c b = ({ c with wear := c.wear.set b (nm c.wear b + 1), ws := eraseTo c.ws b 64 ones }, 0) := by
  unfold mErase
  rw [if_pos (h.refuse _ _ (by omega) (by omega)), if_neg (show ¬ c.endure ≤ nm c.wear (b : Int).toNat by rw [show ((b : Int).toNat) = b from rfl]; omega)]
  unfold mEraseDo
  rw [h.pick, h.err, h.change]
  rfl
theorem Plain.worn {c : ChipM} (h : Plain c) (b : Nat) (hb : b < c.wear.length) (hw : c.endure ≤ nm c.wear b) : mErase c b = (c, 5) := by
  unfold mErase
  rw [if_pos (h.refuse _ _ (by omega) (by omega)), if_pos (show c.endure ≤ nm c.wear (b : Int).toNat by rw [show ((b : Int).toNat) = b from rfl]; omega)]
theorem Plain.new (k : Nat) (e : Int) : Plain (mNew k e) := ⟨rfl, rfl⟩
structure Fused (c : ChipM) : Prop where
  up : c.up = true
  left : c.left = 1
theorem Fused.pick {c : ChipM} (h : Fused c) : mPick c = c.pick := by unfold mPick; rw [if_pos h.left]
theorem Fused.err {c : ChipM} (h : Fused c) : mErr c = 4 := by unfold mErr; rw [if_pos h.left]
theorem Fused.change {c : ChipM} (h : Fused c) : mChange c = { c with left := 0, up := false } := by
  unfold mChange
  rw [if_neg (by rw [h.left]; decide), if_pos h.left]
theorem Fused.refuse {c : ChipM} (h : Fused c) (n m : Int) (h0 : 0 ≤ n) (h1 : n < m) : mRefuse c n m = 0 := by
  unfold mRefuse
  rw [if_neg (by rw [h.up]; decide), if_neg (by omega)]
theorem Fused.program {c : ChipM} (h : Fused c) (i : Nat) (v : BitVec 32) (hi : i < c.ws.length) : mProgram c i v = ({ c with left := 0, up := false, ws := c.ws.set i (partB (wd c.ws i) (wd c.ws i &&& v) c.pick) }, 4) := by
  unfold mProgram
  rw [if_pos (h.refuse _ _ (by omega) (by omega))]
  unfold mProgramDo
  rw [h.pick, h.err, h.change]
  rfl
theorem Fused.erase {c : ChipM} (h : Fused c) (b : Nat) (hb : b < c.wear.length) (hw : nm c.wear b < c.endure) : mErase c b = ({ c with left := 0, up := false, wear := c.wear.set b (nm c.wear b + 1), ws := eraseTo c.ws b 64 c.pick }, 4) := by
  unfold mErase
  rw [if_pos (h.refuse _ _ (by omega) (by omega)), if_neg (show ¬ c.endure ≤ nm c.wear (b : Int).toNat by rw [show ((b : Int).toNat) = b from rfl]; omega)]
  unfold mEraseDo
  rw [h.pick, h.err, h.change]
  rfl
end Go.Proofs.YtpkkejdjhnmjiaaGreat
namespace Go.Proofs.YtpkkejdjhnmjiaaGreat
open Go.RowKit Bm
theorem ReadsU.of_at {w : World} {g cap : Nat} {xs : List (BitVec 32)} {rest : List Value} (h : At w g 36 (Us xs ++ rest)) (hl : (Us xs ++ rest).length = cap) (hm : cap ≤ maxLen) : ReadsU w (some ⟨g, 0, none⟩) xs.length cap xs :=
  ⟨rfl, by rw [← hl, List.length_append, Us_length]; omega, hm, fun _ => ⟨_, rfl, h.lt, fun j u hu => by
    have e : (⟨g, 0, none⟩ : Addr).add j = ⟨g, j, none⟩ := by unfold Addr.add; split <;> simp_all
    rw [e, h.cell, List.getElem?_append_left (List.getElem?_eq_some_iff.1 hu).1]
    exact hu⟩⟩
theorem ReadsU.drewN {w : World} {A : Option Addr} {n cap : Nat} {xs : List (BitVec 32)} (h : ReadsU w A n cap xs) (m : Nat) : ReadsU (w.drewN m) A n cap xs := ⟨h.len, h.le, h.max, h.cell⟩
end Go.Proofs.YtpkkejdjhnmjiaaGreat
