/- Plain mathematics of layer nor's statements: bits that a change in part leaves, and what the plain chip does. -/
import Derived.Test.YtmhkcbdkimnakaaNorMath
namespace Go.Proofs.Ytmhkcbdkimnakaa
open Bm

theorem ones_eq : ones = BitVec.allOnes 32 := by decide
theorem gb_one (i : Int) (h0 : 0 ≤ i) (h1 : i < 32) : gb ones i = true := by rw [ones_eq, gb_ones]; simp [h0, h1]
theorem partB_same (x p : BitVec 32) : partB x x p = x := by
  apply gb_ext; intro i _ _
  rw [gb_part]; split <;> rfl
theorem partB_ones (x y : BitVec 32) : partB x y ones = y := by
  apply gb_ext; intro i h0 h1
  rw [gb_part, gb_one i h0 h1]; rfl
theorem partB_none (x y : BitVec 32) : partB x y 0#32 = x := by
  apply gb_ext; intro i h0 h1
  rw [gb_part, gb_zero]; rfl
theorem turnB_ones (k : Int) : turnB ones k = ones := by
  apply gb_ext; intro i h0 h1
  rw [gb_turn _ _ _ h0 h1, gb_one i h0 h1, gb_one _ (by omega) (by omega)]
theorem turnB_none (k : Int) : turnB 0#32 k = 0#32 := by
  apply gb_ext; intro i h0 h1
  rw [gb_turn _ _ _ h0 h1, gb_zero, gb_zero]
/-- x has no bit that y has not. -/
theorem sub_iff (x y : BitVec 32) : x &&& ~~~y = 0#32 ↔ ∀ i : Int, 0 ≤ i → i < 32 → gb x i = true → gb y i = true := by
  constructor
  · intro h i h0 h1 hx
    have := gb_and x (~~~y) i
    rw [h, gb_zero, gb_not, hx] at this
    simpa [h0, h1] using this
  · intro h
    apply gb_ext; intro i h0 h1
    rw [gb_and, gb_not, gb_zero]
    cases hx : gb x i
    · rfl
    · rw [h i h0 h1 hx]; simp
theorem and_sub (x y : BitVec 32) : (x &&& y) &&& ~~~x = 0#32 := by
  rw [sub_iff]; intro i _ _ h; rw [gb_and] at h; simp at h; exact h.1
theorem part_and_sub (x v p : BitVec 32) : partB x (x &&& v) p &&& ~~~x = 0#32 := by
  rw [sub_iff]; intro i _ _ h
  rw [gb_part] at h
  split at h
  · rw [gb_and] at h; simp at h; exact h.1
  · exact h
theorem and_part_sub (x v p : BitVec 32) : (x &&& v) &&& ~~~(partB x (x &&& v) p) = 0#32 := by
  rw [sub_iff]; intro i _ _ h
  rw [gb_part]
  split
  · exact h
  · rw [gb_and] at h; simp at h; exact h.1
theorem sub_part_ones (x p : BitVec 32) : x &&& ~~~(partB x ones p) = 0#32 := by
  rw [sub_iff]; intro i h0 h1 h
  rw [gb_part]
  split
  · exact gb_one i h0 h1
  · exact h
theorem and_ones (x : BitVec 32) : ones &&& x = x := by
  rw [ones_eq]; exact BitVec.allOnes_and

theorem eraseTo_all (ws : List (BitVec 32)) (b n : Nat) (i : Nat) (h : i < ws.length) : wd (eraseTo ws b n ones) i = if b * 64 ≤ i ∧ i < b * 64 + n then ones else wd ws i := by
  rw [eraseTo_get _ _ _ _ _ h, turnB_ones, partB_ones]
theorem eraseTo_ones (n b m : Nat) : eraseTo (List.replicate n ones) b m ones = List.replicate n ones := by
  apply List.ext_getElem?
  intro i
  unfold eraseTo
  rw [List.getElem?_mapIdx]
  by_cases h : i < n
  · rw [List.getElem?_replicate, if_pos h]
    simp only [Option.map_some]
    split
    · rw [partB_same]
    · rfl
  · rw [List.getElem?_eq_none (by simpa using h)]; rfl

/-! ### A chip without a fuse, with power -/
structure Plain (c : ChipM) : Prop where
  up : c.up = true
  left : c.left = 0
theorem Plain.pick {c : ChipM} (h : Plain c) : mPick c = ones := by unfold mPick; rw [if_neg (by rw [h.left]; decide)]
theorem Plain.err {c : ChipM} (h : Plain c) : mErr c = 0 := by unfold mErr; rw [if_neg (by rw [h.left]; decide)]
theorem Plain.change {c : ChipM} (h : Plain c) : mChange c = c := by unfold mChange; rw [if_pos h.left]
theorem Plain.refuse {c : ChipM} (h : Plain c) (n m : Int) (h0 : 0 ≤ n) (h1 : n < m) : mRefuse c n m = 0 := by
  unfold mRefuse
  rw [if_neg (by rw [h.up]; decide), if_neg (by omega)]
theorem Plain.program {c : ChipM} (h : Plain c) (i : Nat) (v : BitVec 32) (hi : i < c.ws.length) : mProgram c i v = ({ c with ws := c.ws.set i (wd c.ws i &&& v) }, 0) := by
  unfold mProgram
  rw [if_pos (h.refuse _ _ (by omega) (by omega))]
  unfold mProgramDo
  rw [h.pick, h.err, h.change, partB_ones]
  rfl
theorem Plain.read {c : ChipM} (h : Plain c) (i : Nat) (hi : i < c.ws.length) : mRead c i = (wd c.ws i, 0) := by
  unfold mRead
  rw [if_pos (h.refuse _ _ (by omega) (by omega))]
  rfl
theorem Plain.erase {c : ChipM} (h : Plain c) (b : Nat) (hb : b < c.wear.length) (hw : nm c.wear b < c.endure) : mErase c b = ({ c with wear := c.wear.set b (nm c.wear b + 1), ws := eraseTo c.ws b 64 ones }, 0) := by
  unfold mErase
  rw [if_pos (h.refuse _ _ (by omega) (by omega)), if_neg (show ¬ c.endure ≤ nm c.wear (b : Int).toNat by rw [show ((b : Int).toNat) = b from rfl]; omega)]
  unfold mEraseDo
  rw [h.pick, h.err, h.change]
  rfl
theorem Plain.worn {c : ChipM} (h : Plain c) (b : Nat) (hb : b < c.wear.length) (hw : c.endure ≤ nm c.wear b) : mErase c b = (c, 5) := by
  unfold mErase
  rw [if_pos (h.refuse _ _ (by omega) (by omega)), if_pos (show c.endure ≤ nm c.wear (b : Int).toNat by rw [show ((b : Int).toNat) = b from rfl]; omega)]
theorem Plain.new (k : Nat) (e : Int) : Plain (mNew k e) := ⟨rfl, rfl⟩
theorem wd_rep (n i : Nat) (x : BitVec 32) (h : i < n) : wd (List.replicate n x) i = x := by simp [wd, List.getD, h]

/-- NorWorn: a chip of two blocks whose second one was erased j times. -/
def wornAt (k : Int) (j : Nat) : ChipM := { mNew 2 k with wear := [0, (j : Int)] }
theorem wornAt_zero (k : Int) : mNew 2 k = wornAt k 0 := rfl
theorem wornAt_plain (k : Int) (j : Nat) : Plain (wornAt k j) := ⟨rfl, rfl⟩
theorem wornAt_erase (k : Int) (j : Nat) (h : (j : Int) < k) : mErase (wornAt k j) 1 = (wornAt k (j + 1), 0) := by
  have := (wornAt_plain k j).erase 1 (by show 1 < 2; omega) (show nm [0, (j : Int)] 1 < k from h)
  rw [show (((1 : Nat) : Int)) = 1 from rfl] at this
  rw [this]
  have e7 : eraseTo (wornAt k j).ws 1 64 ones = (wornAt k j).ws := eraseTo_ones _ _ _
  rw [e7]
  rfl
/-- .. and then its seventieth word programmed. -/
def wornBy (k : Int) (j : Nat) (v : BitVec 32) : ChipM := { wornAt k j with ws := (wornAt k j).ws.set 70 v }
theorem wornBy_plain (k : Int) (j : Nat) (v : BitVec 32) : Plain (wornBy k j v) := ⟨rfl, rfl⟩
theorem wornAt_program (k : Int) (j : Nat) (v : BitVec 32) : mProgram (wornAt k j) 70 v = (wornBy k j v, 0) := by
  have := (wornAt_plain k j).program 70 v (by simp [wornAt, mNew, mOf])
  rw [show (((70 : Nat) : Int)) = 70 from rfl] at this
  rw [this]
  have e : wd (wornAt k j).ws 70 = ones := wd_rep 128 70 ones (by omega)
  rw [e, and_ones]
  rfl
theorem wornBy_worn (k : Nat) (v : BitVec 32) : mErase (wornBy k k v) 1 = (wornBy k k v, 5) :=
  (wornBy_plain k k v).worn 1 (by show 1 < 2; omega) (show (k : Int) ≤ (k : Int) from Int.le_refl _)
theorem wornBy_read (k : Nat) (v : BitVec 32) : mRead (wornBy k k v) 70 = (v, 0) := by
  have := (wornBy_plain k k v).read 70 (by simp [wornBy, wornAt, mNew, mOf])
  rw [show (((70 : Nat) : Int)) = 70 from rfl] at this
  rw [this]
  unfold wornBy
  rw [wd_set_self _ _ _ (by simp [wornAt, mNew, mOf])]
theorem wornBy_wear1 (k : Nat) (v : BitVec 32) : mWear (wornBy k k v) 1 = (k : Int) := rfl
theorem wornBy_wear0 (k : Nat) (v : BitVec 32) : mWear (wornBy k k v) 0 = 0 := rfl
theorem wornAt_ok (k j : Nat) (h : j ≤ k) (hk : k ≤ 20) : ChipOk 2 (wornAt k j) := by
  refine ⟨by omega, by omega, by simp [wornAt, mNew, mOf], rfl, by show (0 : Int) ≤ k; omega, by show (k : Int) ≤ _; omega, by show (0 : Int) ≤ 0; omega, by show (0 : Int) ≤ _; omega, ?_, ?_⟩
  · intro i
    match i with
    | 0 => exact Int.le_refl _
    | 1 => show (0 : Int) ≤ j; omega
    | i + 2 => rw [nm_far _ _ (by show 2 ≤ i + 2; omega)]; exact Int.le_refl _
  · intro i
    match i with
    | 0 => show (0 : Int) ≤ k; omega
    | 1 => show (j : Int) ≤ k; omega
    | i + 2 => rw [nm_far _ _ (by show 2 ≤ i + 2; omega)]; show (0 : Int) ≤ k; omega
theorem wornBy_ok (k j : Nat) (v : BitVec 32) (h : j ≤ k) (hk : k ≤ 20) : ChipOk 2 (wornBy k j v) := by
  have g := wornAt_ok k j h hk
  exact ⟨g.k1, g.k2, by simp [wornBy, wornAt, mNew, mOf], g.wears, g.e0, g.e1, g.l0, g.l1, g.w0, g.w1⟩
end Go.Proofs.Ytmhkcbdkimnakaa
