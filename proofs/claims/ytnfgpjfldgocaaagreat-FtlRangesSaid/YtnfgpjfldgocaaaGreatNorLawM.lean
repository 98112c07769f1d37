/- Plain mathematics of layer nor's statements: bits that a change in part leaves, and what the plain chip does. | The document's comparison of two rows of words: of rows that read as the same words it is true. -/
import Derived.Test.YtnfgpjfldgocaaaGreatNorA
import Derived.Test.YtnfgpjfldgocaaaGreatRows
import Derived.Test.YtnfgpjfldgocaaaGreatLaw
import Derived.Deep.QuietTactic
import Derived.BigQuiet
import Derived.Lib.Hide
namespace Go.Proofs.YtnfgpjfldgocaaaGreat
open Bm

theorem ones_eq : ones = BitVec.allOnes 32 := by decide
theorem gb_one (i : Int) (h0 : 0 ≤ i) (h1 : i < 32) : gb ones i = true := by rw [ones_eq, gb_ones]; simp [h0, h1]
theorem partB_same (x p : BitVec 32) : partB x x p = x := by
  apply gb_ext; intro i _ _
  rw [gb_part]; split <;> rfl
theorem partB_ones (x y : BitVec 32) : partB x y ones = y := by
  apply gb_ext; intro i h0 h1
  rw [gb_part, gb_one i h0 h1]; rfl
theorem partB_none (x y : BitVec 32) : partB x y 0#32 = x := by
  apply gb_ext; intro i h0 h1
  rw [gb_part, gb_zero]; rfl
theorem turnB_ones (k : Int) : turnB ones k = ones := by
  apply gb_ext; intro i h0 h1
  rw [gb_turn _ _ _ h0 h1, gb_one i h0 h1, gb_one _ (by omega) (by omega)]
theorem turnB_none (k : Int) : turnB 0#32 k = 0#32 := by
  apply gb_ext; intro i h0 h1
  rw [gb_turn _ _ _ h0 h1, gb_zero, gb_zero]
/-- x has no bit that y has not. -/
theorem sub_iff (x y : BitVec 32) : x &&& ~~~y = 0#32 ↔ ∀ i : Int, 0 ≤ i → i < 32 → gb x i = true → gb y i = true := by
  constructor
  · intro h i h0 h1 hx
    have := gb_and x (~~~y) i
    rw [h, gb_zero, gb_not, hx] at this
    simpa [h0, h1] using this
  · intro h
    apply gb_ext; intro i h0 h1
    rw [gb_and, gb_not, gb_zero]
    cases hx : gb x i
    · rfl
    · rw [h i h0 h1 hx]; simp
theorem and_sub (x y : BitVec 32) : (x &&& y) &&& ~~~x = 0#32 := by
  rw [sub_iff]; intro i _ _ h; rw [gb_and] at h; simp at h; exact h.1
theorem part_and_sub (x v p : BitVec 32) : partB x (x &&& v) p &&& ~~~x = 0#32 := by
  rw [sub_iff]; intro i _ _ h
  rw [gb_part] at h
  split at h
  · rw [gb_and] at h; simp at h; exact h.1
  · exact h
theorem and_part_sub (x v p : BitVec 32) : (x &&& v) &&& ~~~(partB x (x &&& v) p) = 0#32 := by
  rw [sub_iff]; intro i _ _ h
  rw [gb_part]
  split
  · exact h
  · rw [gb_and] at h; simp at h; exact h.1
theorem sub_part_ones (x p : BitVec 32) : x &&& ~~~(partB x ones p) = 0#32 := by
  rw [sub_iff]; intro i h0 h1 h
  rw [gb_part]
  split
  · exact gb_one i h0 h1
  · exact h
theorem and_ones (x : BitVec 32) : ones &&& x = x := by
  rw [ones_eq]; exact BitVec.allOnes_and

theorem eraseTo_all (ws : List (BitVec 32)) (b n : Nat) (i : Nat) (h : i < ws.length) : wd (eraseTo ws b n ones) i = if b * 64 ≤ i ∧ i < b * 64 + n then ones else wd ws i := by
  rw [eraseTo_get _ _ _ _ _ h, turnB_ones, partB_ones]
theorem eraseTo_ones (n b m : Nat) : eraseTo (List.replicate n ones) b m ones = List.replicate n ones := by
  apply List.ext_getElem?
  intro i
  unfold eraseTo
  rw [List.getElem?_mapIdx]
  by_cases h : i < n
  · rw [List.getElem?_replicate, if_pos h]
    simp only [Option.map_some]
    split
    · rw [partB_same]
    · rfl
  · rw [List.getElem?_eq_none (by simpa using h)]; rfl

/-! ### A chip without a fuse, with power -/
structure Plain (c : ChipM) : Prop where
  up : c.up = true
  left : c.left = 0
theorem Plain.pick {c : ChipM} (h : Plain c) : mPick c = ones := by unfold mPick; rw [if_neg (by rw [h.left]; decide)]
theorem Plain.err {c : ChipM} (h : Plain c) : mErr c = 0 := by unfold mErr; rw [if_neg (by rw [h.left]; decide)]
theorem Plain.change {c : ChipM} (h : Plain c) : mChange c = c := by unfold mChange; rw [if_pos h.left]
theorem Plain.refuse {c : ChipM} (h : Plain c) (n m : Int) (h0 : 0 ≤ n) (h1 : n < m) : mRefuse c n m = 0 := by
  unfold mRefuse
  rw [if_neg (by rw [h.up]; decide), if_neg (by omega)]
theorem Plain.program {c : ChipM} (h : Plain c) (i : Nat) (v : BitVec 32) (hi : i < c.ws.length) : mProgram c i v = ({ c with ws := c.ws.set i (wd c.ws i &&& v) }, 0) := by
  unfold mProgram
  rw [if_pos (h.refuse _ _ (by omega) (by omega))]
  unfold mProgramDo
  rw [h.pick, h.err, h.change, partB_ones]
  rfl
theorem Plain.read {c : ChipM} (h : Plain c) (i : Nat) (hi : i < c.ws.length) : mRead c i = (wd c.ws i, 0) := by
  unfold mRead
  rw [if_pos (h.refuse _ _ (by omega) (by omega))]
  rfl
theorem Plain.erase {c : ChipM} (h : Plain c) (b : Nat) (hb : b < c.wear.length) (hw : nm c.wear b < c.endure) : mErase c b = ({ c with wear := c.wear.set b (nm c.wear b + 1), ws := eraseTo c.ws b 64 ones }, 0) := by
  unfold mErase
  rw [if_pos (h.refuse _ _ (by omega) (by omega)), if_neg (show ¬ c.endure ≤ nm c.wear (b : Int).toNat by rw [show ((b : Int).toNat) = b from rfl]; omega)]
  unfold mEraseDo
  rw [h.pick, h.err, h.change]
  rfl
theorem Plain.worn {c : ChipM} (h : Plain c) (b : Nat) (hb : b < c.wear.length) (hw : c.endure ≤ nm c.wear b) : mErase c b = (c, 5) := by
  unfold mErase
  rw [if_pos (h.refuse _ _ (by omega) (by omega)), if_pos (show c.endure ≤ nm c.wear (b : Int).toNat by rw [show ((b : Int).toNat) = b from rfl]; omega)]
theorem Plain.new (k : Nat) (e : Int) : Plain (mNew k e) := ⟨rfl, rfl⟩
theorem wd_rep (n i : Nat) (x : BitVec 32) (h : i < n) : wd (List.replicate n x) i = x := by simp [wd, List.getD, h]

/-- NorWorn: a chip of two blocks whose second one was erased j times. -/
def wornAt (k : Int) (j : Nat) : ChipM := { mNew 2 k with wear := [0, (j : Int)] }
theorem wornAt_zero (k : Int) : mNew 2 k = wornAt k 0 := rfl
theorem wornAt_plain (k : Int) (j : Nat) : Plain (wornAt k j) := ⟨rfl, rfl⟩
theorem wornAt_erase (k : Int) (j : Nat) (h : (j : Int) < k) : mErase (wornAt k j) 1 = (wornAt k (j + 1), 0) := by
  have := (wornAt_plain k j).erase 1 (by show 1 < 2; omega) (show nm [0, (j : Int)] 1 < k from h)
  rw [show (((1 : Nat) : Int)) = 1 from rfl] at this
  rw [this]
  have e7 : eraseTo (wornAt k j).ws 1 64 ones = (wornAt k j).ws := eraseTo_ones _ _ _
  rw [e7]
  rfl
/-- .. and then its seventieth word programmed. -/
def wornBy (k : Int) (j : Nat) (v : BitVec 32) : ChipM := { wornAt k j with ws := (wornAt k j).ws.set 70 v }
theorem wornBy_plain (k : Int) (j : Nat) (v : BitVec 32) : Plain (wornBy k j v) := ⟨rfl, rfl⟩
theorem wornAt_program (k : Int) (j : Nat) (v : BitVec 32) : mProgram (wornAt k j) 70 v = (wornBy k j v, 0) := by
  have := (wornAt_plain k j).program 70 v (by simp [wornAt, mNew, mOf])
  rw [show (((70 : Nat) : Int)) = 70 from rfl] at this
  rw [this]
  have e : wd (wornAt k j).ws 70 = ones := wd_rep 128 70 ones (by omega)
  rw [e, and_ones]
  rfl
theorem wornBy_worn (k : Nat) (v : BitVec 32) : mErase (wornBy k k v) 1 = (wornBy k k v, 5) :=
  (wornBy_plain k k v).worn 1 (by show 1 < 2; omega) (show (k : Int) ≤ (k : Int) from Int.le_refl _)
theorem wornBy_read (k : Nat) (v : BitVec 32) : mRead (wornBy k k v) 70 = (v, 0) := by
  have := (wornBy_plain k k v).read 70 (by simp [wornBy, wornAt, mNew, mOf])
  rw [show (((70 : Nat) : Int)) = 70 from rfl] at this
  rw [this]
  unfold wornBy
  rw [wd_set_self _ _ _ (by simp [wornAt, mNew, mOf])]
theorem wornBy_wear1 (k : Nat) (v : BitVec 32) : mWear (wornBy k k v) 1 = (k : Int) := rfl
theorem wornBy_wear0 (k : Nat) (v : BitVec 32) : mWear (wornBy k k v) 0 = 0 := rfl
theorem wornAt_ok (k j : Nat) (h : j ≤ k) (hk : k ≤ 20) : ChipOk 2 (wornAt k j) := by
  refine ⟨by omega, by omega, by simp [wornAt, mNew, mOf], rfl, by show (0 : Int) ≤ k; omega, by show (k : Int) ≤ _; omega, by show (0 : Int) ≤ 0; omega, by show (0 : Int) ≤ _; omega, ?_, ?_⟩
  · intro i
    match i with
    | 0 => exact Int.le_refl _
    | 1 => show (0 : Int) ≤ j; omega
    | i + 2 => rw [nm_far _ _ (by show 2 ≤ i + 2; omega)]; exact Int.le_refl _
  · intro i
    match i with
    | 0 => show (0 : Int) ≤ k; omega
    | 1 => show (j : Int) ≤ k; omega
    | i + 2 => rw [nm_far _ _ (by show 2 ≤ i + 2; omega)]; show (0 : Int) ≤ k; omega
theorem wornBy_ok (k j : Nat) (v : BitVec 32) (h : j ≤ k) (hk : k ≤ 20) : ChipOk 2 (wornBy k j v) := by
  have g := wornAt_ok k j h hk
  exact ⟨g.k1, g.k2, by simp [wornBy, wornAt, mNew, mOf], g.wears, g.e0, g.e1, g.l0, g.l1, g.w0, g.w1⟩

/-! ### A chip whose fuse burns in the next change -/
structure Fused (c : ChipM) : Prop where
  up : c.up = true
  left : c.left = 1
theorem Fused.pick {c : ChipM} (h : Fused c) : mPick c = c.pick := by unfold mPick; rw [if_pos h.left]
theorem Fused.err {c : ChipM} (h : Fused c) : mErr c = 4 := by unfold mErr; rw [if_pos h.left]
theorem Fused.change {c : ChipM} (h : Fused c) : mChange c = { c with left := 0, up := false } := by
  unfold mChange
  rw [if_neg (by rw [h.left]; decide), if_pos h.left]
theorem Fused.refuse {c : ChipM} (h : Fused c) (n m : Int) (h0 : 0 ≤ n) (h1 : n < m) : mRefuse c n m = 0 := by
  unfold mRefuse
  rw [if_neg (by rw [h.up]; decide), if_neg (by omega)]
theorem Fused.program {c : ChipM} (h : Fused c) (i : Nat) (v : BitVec 32) (hi : i < c.ws.length) : mProgram c i v = ({ c with left := 0, up := false, ws := c.ws.set i (partB (wd c.ws i) (wd c.ws i &&& v) c.pick) }, 4) := by
  unfold mProgram
  rw [if_pos (h.refuse _ _ (by omega) (by omega))]
  unfold mProgramDo
  rw [h.pick, h.err, h.change]
  rfl
theorem Fused.erase {c : ChipM} (h : Fused c) (b : Nat) (hb : b < c.wear.length) (hw : nm c.wear b < c.endure) : mErase c b = ({ c with left := 0, up := false, wear := c.wear.set b (nm c.wear b + 1), ws := eraseTo c.ws b 64 c.pick }, 4) := by
  unfold mErase
  rw [if_pos (h.refuse _ _ (by omega) (by omega)), if_neg (show ¬ c.endure ≤ nm c.wear (b : Int).toNat by rw [show ((b : Int).toNat) = b from rfl]; omega)]
  unfold mEraseDo
  rw [h.pick, h.err, h.change]
  rfl
theorem off_refuse {c : ChipM} (h : c.up = false) (n m : Int) : mRefuse c n m = 4 := by unfold mRefuse; rw [if_pos h]
theorem off_program {c : ChipM} (h : c.up = false) (a : Int) (v : BitVec 32) : mProgram c a v = (c, 4) := by
  unfold mProgram
  rw [off_refuse h, if_neg (by decide)]

/-! ### NorPart -/
def pX (w v p : BitVec 32) : BitVec 32 := partB w (w &&& v) p
def pY (w v p : BitVec 32) : BitVec 32 := partB (pX w v p) ones (turnB p 7)
def pt0 : ChipM := mNew 1 5
def pt1 (w : BitVec 32) : ChipM := { pt0 with ws := pt0.ws.set 7 w }
def pt2 (w p : BitVec 32) : ChipM := { pt1 w with left := 1, pick := p }
def pt3 (w v p : BitVec 32) : ChipM := { pt0 with up := false, ws := (pt1 w).ws.set 7 (pX w v p), pick := p }
def pt4 (w v p : BitVec 32) : ChipM := { pt3 w v p with up := true }
def pt5 (w v p : BitVec 32) : ChipM := { pt4 w v p with left := 1 }
def pt6 (w v p : BitVec 32) : ChipM := { pt3 w v p with wear := [1], ws := eraseTo (pt3 w v p).ws 0 64 p }
def pt7 (w v p : BitVec 32) : ChipM := { pt6 w v p with up := true }
theorem pt0_len : pt0.ws.length = 64 := by simp [pt0, mNew, mOf]
theorem pt1_len (w : BitVec 32) : (pt1 w).ws.length = 64 := by simp [pt1, pt0_len]
theorem pt1_wd (w : BitVec 32) : wd (pt1 w).ws 7 = w := wd_set_self _ _ _ (by rw [pt0_len]; omega)
theorem pt3_len (w v p : BitVec 32) : (pt3 w v p).ws.length = 64 := by simp [pt3, pt1_len]
theorem pt3_wd (w v p : BitVec 32) : wd (pt3 w v p).ws 7 = pX w v p := wd_set_self _ _ _ (by rw [pt1_len]; omega)
theorem pt1_is (w : BitVec 32) : mProgram pt0 7 w = (pt1 w, 0) := by
  have := (Plain.new 1 5).program 7 w (by simp [mNew, mOf])
  rw [show (((7 : Nat) : Int)) = 7 from rfl] at this
  unfold pt0
  rw [this]
  have e : wd (mNew 1 5).ws 7 = ones := wd_rep 64 7 ones (by omega)
  rw [e, and_ones]
  rfl
theorem pt2_is (w p : BitVec 32) : mFuse (pt1 w) 1 p = pt2 w p := rfl
theorem pt3_is (w v p : BitVec 32) : mProgram (pt2 w p) 7 v = (pt3 w v p, 4) := by
  have := (show Fused (pt2 w p) from ⟨rfl, rfl⟩).program 7 v (by rw [show (pt2 w p).ws = (pt1 w).ws from rfl, pt1_len]; omega)
  rw [show (((7 : Nat) : Int)) = 7 from rfl] at this
  rw [this, show wd (pt2 w p).ws 7 = w from pt1_wd w]
  rfl
theorem pt4_is (w v p : BitVec 32) : mOn (pt3 w v p) = pt4 w v p := rfl
theorem pt4_read (w v p : BitVec 32) : mRead (pt4 w v p) 7 = (pX w v p, 0) := by
  have := (show Plain (pt4 w v p) from ⟨rfl, rfl⟩).read 7 (by rw [show (pt4 w v p).ws = (pt3 w v p).ws from rfl, pt3_len]; omega)
  rw [show (((7 : Nat) : Int)) = 7 from rfl] at this
  rw [this, show wd (pt4 w v p).ws 7 = pX w v p from pt3_wd w v p]
theorem pt5_is (w v p : BitVec 32) : mFuse (pt4 w v p) 1 p = pt5 w v p := rfl
theorem pt6_is (w v p : BitVec 32) : mErase (pt5 w v p) 0 = (pt6 w v p, 4) := by
  have := (show Fused (pt5 w v p) from ⟨rfl, rfl⟩).erase 0 (by show 0 < 1; omega) (show (0 : Int) < 5 by omega)
  rw [show (((0 : Nat) : Int)) = 0 from rfl] at this
  rw [this]
  rfl
theorem pt7_is (w v p : BitVec 32) : mOn (pt6 w v p) = pt7 w v p := rfl
theorem pt7_ws (w v p : BitVec 32) : (pt7 w v p).ws = eraseTo (pt3 w v p).ws 0 64 p := by simp only [pt7, pt6]
theorem pt7_wd (w v p : BitVec 32) : wd (pt7 w v p).ws 7 = pY w v p := by
  rw [pt7_ws, eraseTo_get _ _ _ _ _ (by rw [pt3_len]; omega), if_pos (by omega), pt3_wd]
  rfl
theorem pt7_plain (w v p : BitVec 32) : Plain (pt7 w v p) := ⟨rfl, rfl⟩
theorem pt7_read (w v p : BitVec 32) : mRead (pt7 w v p) 7 = (pY w v p, 0) := by
  have := (pt7_plain w v p).read 7 (by rw [pt7_ws, eraseTo_length, pt3_len]; omega)
  rw [pt7_wd] at this
  exact this
theorem pt0_ok : ChipOk 1 pt0 := ChipOk.of _ 1 5 (by omega) (by omega) (by simp) (by omega) (by omega)
theorem pt1_ok (w : BitVec 32) : ChipOk 1 (pt1 w) := by have := pt0_ok.program 7 w; rwa [pt1_is] at this
theorem pt2_ok (w p : BitVec 32) : ChipOk 1 (pt2 w p) := (pt1_ok w).fuse 1 p (by omega)
theorem pt3_ok (w v p : BitVec 32) : ChipOk 1 (pt3 w v p) := by have := (pt2_ok w p).program 7 v; rwa [pt3_is] at this
theorem pt4_ok (w v p : BitVec 32) : ChipOk 1 (pt4 w v p) := (pt3_ok w v p).on
theorem pt5_ok (w v p : BitVec 32) : ChipOk 1 (pt5 w v p) := (pt4_ok w v p).fuse 1 p (by omega)
theorem pt6_ok (w v p : BitVec 32) : ChipOk 1 (pt6 w v p) := by have := (pt5_ok w v p).erase 0; rwa [pt6_is] at this
theorem pt7_ok (w v p : BitVec 32) : ChipOk 1 (pt7 w v p) := (pt6_ok w v p).on
theorem pX_sub (w v p : BitVec 32) : pX w v p &&& ~~~w = 0#32 := part_and_sub w v p
theorem pX_sup (w v p : BitVec 32) : (w &&& v) &&& ~~~(pX w v p) = 0#32 := and_part_sub w v p
theorem pY_sup (w v p : BitVec 32) : pX w v p &&& ~~~(pY w v p) = 0#32 := sub_part_ones _ _
theorem pX_none (w v : BitVec 32) : pX w v 0#32 = w := partB_none _ _
theorem pX_ones (w v : BitVec 32) : pX w v ones = w &&& v := partB_ones _ _
theorem pY_none (w v : BitVec 32) : pY w v 0#32 = pX w v 0#32 := by unfold pY; rw [turnB_none, partB_none]
theorem pY_ones (w v : BitVec 32) : pY w v ones = ones := by unfold pY; rw [turnB_ones, partB_ones]

/-! ### NorMeets -/
def meetAt (k : Nat) (m : BitVec 32) : ChipM := { mNew 2 0 with ws := (mNew 2 0).ws.set k m }
theorem rep_set {α : Type} (n k : Nat) (x : α) : (List.replicate n x).set k x = List.replicate n x := by
  apply List.ext_getElem?
  intro i
  rw [List.getElem?_set, List.length_replicate, List.getElem?_replicate]
  split
  · subst_vars; rfl
  · rfl
theorem meetAt_ones (k : Nat) : mNew 2 0 = meetAt k ones := by
  unfold meetAt
  have : (mNew 2 0).ws.set k ones = (mNew 2 0).ws := rep_set 128 k ones
  rw [this]
theorem meetAt_len (k : Nat) (m : BitVec 32) : (meetAt k m).ws.length = 128 := by simp [meetAt, mNew, mOf]
theorem meetAt_wd (k : Nat) (m : BitVec 32) (hk : k < 128) : wd (meetAt k m).ws k = m := wd_set_self _ _ _ (by simp [mNew, mOf]; omega)
theorem meetAt_program (k : Nat) (m v : BitVec 32) (hk : k < 128) : mProgram (meetAt k m) k v = (meetAt k (m &&& v), 0) := by
  rw [(show Plain (meetAt k m) from ⟨rfl, rfl⟩).program k v (by rw [meetAt_len]; exact hk), meetAt_wd k m hk]
  unfold meetAt
  simp only [List.set_set]
theorem meetAt_read (k : Nat) (m : BitVec 32) (hk : k < 128) : mRead (meetAt k m) k = (m, 0) := by
  rw [(show Plain (meetAt k m) from ⟨rfl, rfl⟩).read k (by rw [meetAt_len]; exact hk), meetAt_wd k m hk]
theorem meetAt_ok (k : Nat) (m : BitVec 32) : ChipOk 2 (meetAt k m) := by
  have g : ChipOk 2 (mNew 2 0) := ChipOk.of _ 2 0 (by omega) (by omega) (by simp) (by omega) (by omega)
  exact ⟨g.k1, g.k2, by rw [meetAt_len], g.wears, g.e0, g.e1, g.l0, g.l1, g.w0, g.w1⟩
/-- The bits that the first j words all have. -/
def meet (xs : List (BitVec 32)) (j : Nat) : BitVec 32 := (xs.take j).foldl (fun a b => a &&& b) ones
theorem meet_zero (xs : List (BitVec 32)) : meet xs 0 = ones := rfl
theorem meet_succ (xs : List (BitVec 32)) (j : Nat) (h : j < xs.length) : meet xs (j + 1) = meet xs j &&& wd xs j := by
  unfold meet
  rw [List.take_succ_eq_append_getElem h, List.foldl_append]
  simp [wd, List.getD, h]

/-! ### NorFuses -/
/-- Ahead of the i-th change of a chip whose fuse burns at the stop-th one. -/
def FuseSt (stop i : Nat) (c : ChipM) : Prop := ChipOk 2 c ∧ ((i < stop ∧ c.up = true ∧ c.left = (stop : Int) - (i : Int)) ∨ (stop ≤ i ∧ c.up = false))
theorem fuse_ahead {stop i : Nat} {c : ChipM} (h : FuseSt stop i c) (hi : i + 1 < stop) (a : Nat) (ha : a < 128) (v : BitVec 32) :
    (mProgram c a v).2 = 0 ∧ (mProgram c a v).1.up = true ∧ FuseSt stop (i + 1) (mProgram c a v).1 := by
  obtain ⟨ok, ⟨h1, hu, hl⟩ | ⟨h1, _⟩⟩ := h
  · have hr : mRefuse c a c.ws.length = 0 := by
      unfold mRefuse
      rw [if_neg (by rw [hu]; decide), if_neg (by rw [ok.words]; omega)]
    have ok2 := ok.program (a : Int) v
    unfold mProgram at ok2 ⊢
    rw [if_pos hr] at ok2 ⊢
    have e1 : mErr c = 0 := by unfold mErr; rw [if_neg (by omega)]
    have e2 : mChange c = { c with left := c.left - 1 } := by unfold mChange; rw [if_neg (by omega), if_neg (by omega)]
    have e3 : (mProgramDo c (a : Int).toNat v).up = true := by unfold mProgramDo; rw [e2]; exact hu
    refine ⟨e1, e3, ok2, .inl ⟨hi, e3, ?_⟩⟩
    show (mProgramDo c (a : Int).toNat v).left = _
    unfold mProgramDo
    rw [e2]
    show c.left - 1 = _
    omega
  · omega
theorem fuse_burns {stop i : Nat} {c : ChipM} (h : FuseSt stop i c) (hi : stop ≤ i + 1) (a : Nat) (ha : a < 128) (v : BitVec 32) :
    (mProgram c a v).2 = 4 ∧ (mProgram c a v).1.up = false ∧ FuseSt stop (i + 1) (mProgram c a v).1 := by
  obtain ⟨ok, ⟨h1, hu, hl⟩ | ⟨h1, hu⟩⟩ := h
  · have F : Fused c := ⟨hu, by omega⟩
    have ok2 := ok.program (a : Int) v
    rw [F.program a v (by rw [ok.words]; omega)] at ok2 ⊢
    exact ⟨rfl, rfl, ok2, .inr ⟨hi, rfl⟩⟩
  · rw [off_program hu]
    exact ⟨rfl, hu, ok, .inr ⟨by omega, hu⟩⟩
def fuse0 (stop : Nat) : ChipM := mFuse (mNew 2 10) stop 0#32
theorem fuse_starts (stop : Nat) (h : 1 ≤ stop) (h2 : stop ≤ 20) : FuseSt stop 0 (fuse0 stop) := by
  have g : ChipOk 2 (mNew 2 10) := ChipOk.of _ 2 10 (by omega) (by omega) (by simp) (by omega) (by omega)
  refine ⟨g.fuse _ _ (by omega), .inl ⟨by omega, rfl, ?_⟩⟩
  show max (stop : Int) 0 = _
  omega

/-! ### NorCells -/
/-- What may have become of a word: erased, or no bit was set, and it is the one that was named if it is not as it was. -/
def CellStep (e : Bool) (old new : BitVec 32) (t a : Int) : Prop := e = true ∨ (new &&& ~~~old = 0#32 ∧ (old = new ∨ t = a))
theorem step_same (e : Bool) (old : BitVec 32) (t a : Int) : CellStep e old old t a := .inr ⟨by rw [sub_iff]; intro i _ _ h; exact h, .inl rfl⟩
theorem step_program (c : ChipM) (a : Int) (v : BitVec 32) (t : Nat) (ht : t < c.ws.length) : CellStep false (wd c.ws t) (wd (mProgram c a v).1.ws t) t a := by
  unfold mProgram
  split
  · rename_i hr
    unfold mRefuse at hr
    split at hr
    · omega
    · split at hr
      · omega
      · show CellStep false (wd c.ws t) (wd (c.ws.set a.toNat (partB (wd c.ws a.toNat) (wd c.ws a.toNat &&& v) (mPick c))) t) t a
        by_cases h : a.toNat = t
        · subst h
          rw [wd_set_self _ _ _ ht]
          exact .inr ⟨part_and_sub _ _ _, .inr (by omega)⟩
        · rw [wd_set_other _ _ _ _ h]
          exact step_same _ _ _ _
  · exact step_same _ _ _ _
theorem step_erase (c : ChipM) (b : Int) (t : Nat) (ht : t < c.ws.length) : CellStep (decide ((t : Int) / 64 = b)) (wd c.ws t) (wd (mErase c b).1.ws t) t b := by
  unfold mErase
  split
  · rename_i hr
    unfold mRefuse at hr
    split at hr
    · omega
    · split at hr
      · omega
      · split
        · exact step_same _ _ _ _
        · show CellStep _ (wd c.ws t) (wd (eraseTo c.ws b.toNat 64 (mPick c)) t) t b
          rw [eraseTo_get _ _ _ _ _ ht]
          split
          · left
            rw [decide_eq_true_iff]
            omega
          · exact step_same _ _ _ _
  · exact step_same _ _ _ _
end Go.Proofs.YtnfgpjfldgocaaaGreat

namespace Go.Proofs.YtnfgpjfldgocaaaGreat
open Go.RowKit Bm

theorem ReadsU.of_at {w : World} {g cap : Nat} {xs : List (BitVec 32)} {rest : List Value} (h : At w g 38 (Us xs ++ rest)) (hl : (Us xs ++ rest).length = cap) (hm : cap ≤ maxLen) : ReadsU w (some ⟨g, 0, none⟩) xs.length cap xs :=
  ⟨rfl, by rw [← hl, List.length_append, Us_length]; omega, hm, fun _ => ⟨_, rfl, h.lt, fun j u hu => by
    have e : (⟨g, 0, none⟩ : Addr).add j = ⟨g, j, none⟩ := by unfold Addr.add; split <;> simp_all
    rw [e, h.cell, List.getElem?_append_left (List.getElem?_eq_some_iff.1 hu).1]
    exact hu⟩⟩
theorem ReadsU.drewN {w : World} {A : Option Addr} {n cap : Nat} {xs : List (BitVec 32)} (h : ReadsU w A n cap xs) (m : Nat) : ReadsU (w.drewN m) A n cap xs := ⟨h.len, h.le, h.max, h.cell⟩

set_option maxRecDepth 100000 in
set_option maxHeartbeats 800000 in
theorem same_words (A B : Option Addr) (n c d : Nat) (xs : List (BitVec 32)) (w : World) (hA : ReadsU w A n c xs) (hB : ReadsU w B n d xs) (hn : n ≤ 1000000) :
    Calls Tryz.prog 89 #[.slice A n c, .slice B n d] w fun e w' => e = .returned (.bool true) ∧ ∃ m, w' = w.drewN m := by
  have hAl := hA.le
  have hBl := hB.le
  go_enter Tryz.func89, Tryz.ntmps89
  go_wp2
  go_loopw [5] (fun i wr => ∃ j m : Nat, j ≤ n ∧ i = .int .i64 j ∧ wr = w.drewN m) (fun i _ => n - (intOf i).toNat)
  case atStart => exact ⟨0, 0, by omega, rfl, rfl⟩
  case round =>
    obtain ⟨j, m, hj, rfl, rfl⟩ := hrel
    by_cases hlt : j < n
    · obtain ⟨a, rfl, ha⟩ := hA.at_ hlt
      obtain ⟨b, rfl, hb⟩ := hB.at_ hlt
      have i0 : (0 : Int) ≤ (j : Int) := by omega
      have i1 : (j : Int) < (n : Int) := by omega
      go_wp2
      go_quiet (fail)
      go_wp2
      go_roundw
      case rel => exact ⟨j + 1, _, by omega, by go_num, rfl⟩
      case measure => simp [intOf]; omega
    · obtain rfl : j = n := by omega
      go_wp2
      go_ret
      exact ⟨rfl, m, rfl⟩
end Go.Proofs.YtnfgpjfldgocaaaGreat
