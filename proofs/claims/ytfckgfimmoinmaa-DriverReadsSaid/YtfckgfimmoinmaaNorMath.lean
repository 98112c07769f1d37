/- A chip as plain data, and what becomes of it by each call (chapter 2 of the document). -/
import Derived.Test.YtfckgfimmoinmaaMem
namespace Go.Proofs.Ytfckgfimmoinmaa
open Bm

def ones : BitVec 32 := 4294967295#32

/-- Words, how often blocks were erased, what they bear, the power, the fuse, its pick. -/
structure ChipM where
  ws : List (BitVec 32)
  wear : List Int
  endure : Int
  up : Bool
  left : Int
  pick : BitVec 32

/-- k blocks. -/
structure ChipOk (k : Nat) (c : ChipM) : Prop where
  k1 : 1 ≤ k
  k2 : k ≤ 64
  words : c.ws.length = k * 64
  wears : c.wear.length = k
  e0 : 0 ≤ c.endure
  e1 : c.endure ≤ 9223372036854775807
  l0 : 0 ≤ c.left
  l1 : c.left ≤ 9223372036854775807
  w0 : ∀ i, 0 ≤ nm c.wear i
  w1 : ∀ i, nm c.wear i ≤ c.endure

def mRefuse (c : ChipM) (n many : Int) : Int := if c.up = false then 4 else if n < 0 ∨ many ≤ n then 3 else 0
def mPick (c : ChipM) : BitVec 32 := if c.left = 1 then c.pick else ones
def mErr (c : ChipM) : Int := if c.left = 1 then 4 else 0
def mChange (c : ChipM) : ChipM := if c.left = 0 then c else if c.left = 1 then { c with left := 0, up := false } else { c with left := c.left - 1 }

def mRead (c : ChipM) (at_ : Int) : BitVec 32 × Int := if mRefuse c at_ c.ws.length = 0 then (wd c.ws at_.toNat, 0) else (0#32, mRefuse c at_ c.ws.length)

def mProgramDo (c : ChipM) (i : Nat) (v : BitVec 32) : ChipM :=
  { mChange c with ws := c.ws.set i (partB (wd c.ws i) (wd c.ws i &&& v) (mPick c)) }

/-- Words of block b, up to its n-th one, erased as far as pick says. -/
def eraseTo (ws : List (BitVec 32)) (b n : Nat) (pick : BitVec 32) : List (BitVec 32) :=
  ws.mapIdx fun i x => if b * 64 ≤ i ∧ i < b * 64 + n then partB x ones (turnB pick ((i - b * 64 : Nat) : Int)) else x

def mEraseDo (c : ChipM) (b : Nat) : ChipM :=
  { mChange c with wear := c.wear.set b (nm c.wear b + 1), ws := eraseTo c.ws b 64 (mPick c) }

/-- What Program answers, and what there is behind it. -/
def mProgram (c : ChipM) (at_ : Int) (v : BitVec 32) : ChipM × Int :=
  if mRefuse c at_ c.ws.length = 0 then (mProgramDo c at_.toNat v, mErr c) else (c, mRefuse c at_ c.ws.length)

def mErase (c : ChipM) (b : Int) : ChipM × Int :=
  if mRefuse c b c.wear.length = 0 then (if c.endure ≤ nm c.wear b.toNat then (c, 5) else (mEraseDo c b.toNat, mErr c)) else (c, mRefuse c b c.wear.length)

def mFuse (c : ChipM) (n : Int) (pick : BitVec 32) : ChipM := { c with left := max n 0, pick := pick }
def mCut (c : ChipM) : ChipM := { c with up := false }
def mOn (c : ChipM) : ChipM := { c with up := true, left := 0 }

def mWear (c : ChipM) (b : Int) : Int := if b < 0 then 0 else nm c.wear b.toNat

/-- A new chip. -/
def mOf (ws : List (BitVec 32)) (k : Nat) (endure : Int) : ChipM := ⟨ws, List.replicate k 0, endure, true, 0, 0#32⟩
def mNew (k : Nat) (endure : Int) : ChipM := mOf (List.replicate (k * 64) ones) k endure

theorem eraseTo_zero (ws : List (BitVec 32)) (b : Nat) (p : BitVec 32) : eraseTo ws b 0 p = ws := by
  unfold eraseTo
  apply List.ext_getElem?
  intro i
  rw [List.getElem?_mapIdx]
  cases ws[i]? with
  | none => rfl
  | some x => simp; omega

theorem eraseTo_length (ws : List (BitVec 32)) (b n : Nat) (p : BitVec 32) : (eraseTo ws b n p).length = ws.length := by simp [eraseTo]

theorem eraseTo_get (ws : List (BitVec 32)) (b n : Nat) (p : BitVec 32) (i : Nat) (h : i < ws.length) :
    wd (eraseTo ws b n p) i = if b * 64 ≤ i ∧ i < b * 64 + n then partB (wd ws i) ones (turnB p ((i - b * 64 : Nat) : Int)) else wd ws i := by
  unfold eraseTo wd
  simp [List.getD, h]

/-- One word more. -/
theorem eraseTo_step (ws : List (BitVec 32)) (b n : Nat) (p : BitVec 32) :
    (eraseTo ws b n p).set (b * 64 + n) (partB (wd ws (b * 64 + n)) ones (turnB p (n : Int))) = eraseTo ws b (n + 1) p := by
  apply List.ext_getElem?
  intro i
  rw [List.getElem?_set, eraseTo_length]
  unfold eraseTo
  rw [List.getElem?_mapIdx, List.getElem?_mapIdx]
  by_cases h : b * 64 + n = i
  · subst h
    rw [if_pos rfl]
    by_cases hl : b * 64 + n < ws.length
    · rw [if_pos hl]
      simp only [List.getElem?_eq_getElem hl, Option.map_some, wd, List.getD, Option.getD_some]
      rw [if_pos (by omega), show b * 64 + n - b * 64 = n by omega]
    · rw [if_neg hl, List.getElem?_eq_none (by omega)]; rfl
  · rw [if_neg h]
    cases ws[i]? with
    | none => rfl
    | some x =>
      simp only [Option.map_some]
      congr 1
      by_cases h1 : b * 64 ≤ i ∧ i < b * 64 + n
      · rw [if_pos h1, if_pos (by omega)]
      · rw [if_neg h1, if_neg (by omega)]

theorem wd_set_self (l : List (BitVec 32)) (i : Nat) (x : BitVec 32) (h : i < l.length) : wd (l.set i x) i = x := by
  simp [wd, List.getD, h]
theorem wd_set_other (l : List (BitVec 32)) (i j : Nat) (x : BitVec 32) (h : i ≠ j) : wd (l.set i x) j = wd l j := by
  simp [wd, List.getD, h]
theorem nm_set_self (l : List Int) (i : Nat) (x : Int) (h : i < l.length) : nm (l.set i x) i = x := by
  simp [nm, List.getD, h]
theorem nm_set_other (l : List Int) (i j : Nat) (x : Int) (h : i ≠ j) : nm (l.set i x) j = nm l j := by
  simp [nm, List.getD, h]
theorem nm_zeros (k i : Nat) : nm (List.replicate k (0 : Int)) i = 0 := by
  simp only [nm, List.getD, List.getElem?_replicate]
  split <;> rfl
theorem nm_far (l : List Int) (i : Nat) (h : l.length ≤ i) : nm l i = 0 := by
  simp [nm, List.getD, h]

section
variable {k : Nat} {c : ChipM}
theorem ChipOk.change (h : ChipOk k c) : ChipOk k (mChange c) := by
  have a := h.l0
  have b := h.l1
  unfold mChange
  split
  · exact h
  · split
    · exact ⟨h.k1, h.k2, h.words, h.wears, h.e0, h.e1, by simp, by simp, h.w0, h.w1⟩
    · exact ⟨h.k1, h.k2, h.words, h.wears, h.e0, h.e1, by simp; omega, by simp; omega, h.w0, h.w1⟩
theorem mChange_ws (c : ChipM) : (mChange c).ws = c.ws := by unfold mChange; split <;> (try split) <;> rfl
theorem mChange_wear (c : ChipM) : (mChange c).wear = c.wear := by unfold mChange; split <;> (try split) <;> rfl
theorem mChange_endure (c : ChipM) : (mChange c).endure = c.endure := by unfold mChange; split <;> (try split) <;> rfl
theorem mChange_pick (c : ChipM) : (mChange c).pick = c.pick := by unfold mChange; split <;> (try split) <;> rfl

theorem ChipOk.programDo (h : ChipOk k c) (i : Nat) (v : BitVec 32) : ChipOk k (mProgramDo c i v) := by
  have g := h.change
  exact ⟨g.k1, g.k2, by rw [mProgramDo, List.length_set]; exact h.words, g.wears, g.e0, g.e1, g.l0, g.l1, g.w0, g.w1⟩
theorem ChipOk.eraseDo (h : ChipOk k c) (b : Nat) (hb : b < k) (hw : nm c.wear b < c.endure) : ChipOk k (mEraseDo c b) := by
  have g := h.change
  have e := mChange_endure c
  refine ⟨g.k1, g.k2, by rw [mEraseDo, eraseTo_length]; exact h.words, by rw [mEraseDo, List.length_set]; exact h.wears, g.e0, g.e1, g.l0, g.l1, ?_, ?_⟩
  · intro i
    by_cases hi : b = i
    · subst hi
      simp only [mEraseDo]
      rw [nm_set_self _ _ _ (by rw [h.wears]; exact hb)]
      have := h.w0 b
      omega
    · simp only [mEraseDo]
      rw [nm_set_other _ _ _ _ hi]
      exact h.w0 i
  · intro i
    simp only [mEraseDo, e]
    by_cases hi : b = i
    · subst hi
      rw [nm_set_self _ _ _ (by rw [h.wears]; exact hb)]
      omega
    · rw [nm_set_other _ _ _ _ hi]
      exact h.w1 i
theorem ChipOk.fuse (h : ChipOk k c) (n : Int) (p : BitVec 32) (hn : n ≤ 9223372036854775807) : ChipOk k (mFuse c n p) :=
  ⟨h.k1, h.k2, h.words, h.wears, h.e0, h.e1, by simp [mFuse]; omega, by simp [mFuse]; omega, h.w0, h.w1⟩
theorem ChipOk.cut (h : ChipOk k c) : ChipOk k (mCut c) := ⟨h.k1, h.k2, h.words, h.wears, h.e0, h.e1, h.l0, h.l1, h.w0, h.w1⟩
theorem ChipOk.on (h : ChipOk k c) : ChipOk k (mOn c) := ⟨h.k1, h.k2, h.words, h.wears, h.e0, h.e1, by simp [mOn], by simp [mOn], h.w0, h.w1⟩
theorem ChipOk.of (ws : List (BitVec 32)) (k : Nat) (endure : Int) (h1 : 1 ≤ k) (h2 : k ≤ 64) (hw : ws.length = k * 64) (e0 : 0 ≤ endure) (e1 : endure ≤ 9223372036854775807) : ChipOk k (mOf ws k endure) := by
  exact ⟨h1, h2, hw, by simp [mOf], e0, e1, by simp [mOf], by simp [mOf], by intro i; simp only [mOf, nm_zeros]; omega, by intro i; simp only [mOf, nm_zeros]; exact e0⟩
end
theorem refuse_zero {c : ChipM} {n m : Int} (h : mRefuse c n m = 0) : c.up = true ∧ 0 ≤ n ∧ n < m := by
  unfold mRefuse at h
  split at h
  · omega
  · rename_i hu
    split at h
    · omega
    · exact ⟨by simpa using hu, by omega, by omega⟩

theorem ChipOk.program {k : Nat} {c : ChipM} (ok : ChipOk k c) (a : Int) (v : BitVec 32) : ChipOk k (mProgram c a v).1 := by
  unfold mProgram
  split
  · exact ok.programDo _ _
  · exact ok

theorem ChipOk.erase {k : Nat} {c : ChipM} (ok : ChipOk k c) (b : Int) : ChipOk k (mErase c b).1 := by
  unfold mErase
  split
  · rename_i hr
    obtain ⟨_, h1, h2⟩ := refuse_zero hr
    split
    · exact ok
    · exact ok.eraseDo _ (by have := ok.wears; omega) (by omega)
  · exact ok

end Go.Proofs.Ytfckgfimmoinmaa
