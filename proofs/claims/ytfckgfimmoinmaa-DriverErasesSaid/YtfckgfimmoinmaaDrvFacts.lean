/- What a driver's calls do where nothing stands in the way. -/
import Derived.Test.YtfckgfimmoinmaaDrvMath3
namespace Go.Proofs.Ytfckgfimmoinmaa
open Bm

/-- A driver whose chip has power, and no fuse. -/
structure Fit (k : Nat) (d : DrvM) : Prop where
  ok : DrvOk k d
  plain : Plain d.f.chip

section
variable {k : Nat} {d : DrvM}
theorem Fit.len (h : Fit k d) : d.f.chip.ws.length = k * 64 := h.ok.ok.chip.words
theorem Fit.wlen (h : Fit k d) : d.f.chip.wear.length = k := h.ok.ok.chip.wears
theorem Fit.refuse (h : Fit k d) (a : Int) (h0 : 0 ≤ a) (h1 : a < (k * 64 : Nat)) : fRefuse d.f a = 0 := fRefuse_on h.plain.up a h0 (by rw [h.len]; exact h1)

def putD (d : DrvM) (i : Nat) (v : BitVec 32) : DrvM := ⟨{ d.f with mode := 1, chip := { d.f.chip with ws := d.f.chip.ws.set i (wd d.f.chip.ws i &&& v) } }, d.t + 3⟩
theorem Fit.put (h : Fit k d) (i : Nat) (v : BitVec 32) (hi : i < k * 64) (hl : lk d.f.locks (i / 64) = false) : dPut d i v = (putD d i v, 0) ∧ Fit k (putD d i v) := by
  have hp := h.plain.program i v (by rw [h.len]; exact hi)
  have e : dPut d i v = (putD d i v, 0) := by
    unfold dPut
    rw [if_pos (h.refuse i (by omega) (by omega)), if_neg (by rw [show ((i : Int).toNat) = i from rfl, hl]; decide), hp]
    rfl
  have c := put_calm h.ok i v
  rw [e] at c
  exact ⟨e, c, h.plain.up, h.plain.left⟩
theorem Fit.putLocked (h : Fit k d) (i : Nat) (v : BitVec 32) (hi : i < k * 64) (hl : lk d.f.locks (i / 64) = true) : dPut d i v = (⟨{ d.f with mode := 1 }, d.t⟩, 6) ∧ Fit k ⟨{ d.f with mode := 1 }, d.t⟩ := by
  have e : dPut d i v = (⟨{ d.f with mode := 1 }, d.t⟩, 6) := by
    unfold dPut
    rw [if_pos (h.refuse i (by omega) (by omega)), if_pos (by rw [show ((i : Int).toNat) = i from rfl]; exact hl)]
  have c := put_calm h.ok i v
  rw [e] at c
  exact ⟨e, c, h.plain⟩
theorem block_low (b : Nat) (hb : b < k) : (b : Int) * 64 < (k * 64 : Nat) := by omega
def eraseD (d : DrvM) (b : Nat) : DrvM := ⟨{ d.f with mode := 1, chip := { d.f.chip with wear := d.f.chip.wear.set b (nm d.f.chip.wear b + 1), ws := eraseTo d.f.chip.ws b 64 ones } }, d.t + 20⟩
theorem Fit.erase (h : Fit k d) (b : Nat) (hb : b < k) (hl : lk d.f.locks b = false) (hw : nm d.f.chip.wear b < d.f.chip.endure) : dErase d b = (eraseD d b, 0) ∧ Fit k (eraseD d b) := by
  have hp := h.plain.erase b (by rw [h.wlen]; exact hb) hw
  have e : dErase d b = (eraseD d b, 0) := by
    unfold dErase
    rw [if_pos (h.refuse _ (by omega) (block_low b hb)), if_neg (by rw [show ((b : Int).toNat) = b from rfl, hl]; decide), hp]
    rfl
  have c := erase_calm h.ok b
  rw [e] at c
  exact ⟨e, c, h.plain.up, h.plain.left⟩
theorem Fit.worn (h : Fit k d) (b : Nat) (hb : b < k) (hl : lk d.f.locks b = false) (hw : d.f.chip.endure ≤ nm d.f.chip.wear b) : dErase d b = (⟨{ d.f with mode := 1 }, d.t + 20⟩, 5) ∧ Fit k ⟨{ d.f with mode := 1 }, d.t + 20⟩ := by
  have hp := h.plain.worn b (by rw [h.wlen]; exact hb) hw
  have e : dErase d b = (⟨{ d.f with mode := 1 }, d.t + 20⟩, 5) := by
    unfold dErase
    rw [if_pos (h.refuse _ (by omega) (block_low b hb)), if_neg (by rw [show ((b : Int).toNat) = b from rfl, hl]; decide), hp]
  have c := erase_calm h.ok b
  rw [e] at c
  exact ⟨e, c, h.plain⟩
theorem Fit.eraseLocked (h : Fit k d) (b : Nat) (hb : b < k) (hl : lk d.f.locks b = true) : dErase d b = (⟨{ d.f with mode := 1 }, d.t⟩, 6) ∧ Fit k ⟨{ d.f with mode := 1 }, d.t⟩ := by
  have e : dErase d b = (⟨{ d.f with mode := 1 }, d.t⟩, 6) := by
    unfold dErase
    rw [if_pos (h.refuse _ (by omega) (block_low b hb)), if_pos (by rw [show ((b : Int).toNat) = b from rfl]; exact hl)]
  have c := erase_calm h.ok b
  rw [e] at c
  exact ⟨e, c, h.plain⟩
def lockD (d : DrvM) (b : Nat) (on : Bool) : DrvM := ⟨{ d.f with mode := 1, locks := d.f.locks.set b on }, d.t⟩
theorem Fit.lock (h : Fit k d) (b : Nat) (on : Bool) (hb : b < k) : dLock d b on = (lockD d b on, 0) ∧ Fit k (lockD d b on) := by
  have e : dLock d b on = (lockD d b on, 0) := by
    unfold dLock
    rw [if_pos (h.refuse _ (by omega) (block_low b hb))]
    rfl
  have c := lock_calm h.ok b on
  rw [e] at c
  exact ⟨e, c, h.plain⟩
theorem Fit.read (h : Fit k d) (i n : Nat) (hn : n ≤ 64) (hi : i + n ≤ k * 64) : dRead d i n = ((if n = 0 then d else ⟨{ d.f with mode := 0 }, d.t⟩), (d.f.chip.ws.drop i).take n, 0) ∧ Fit k (dRead d i n).1 := by
  have e : dRead d i n = ((if n = 0 then d else ⟨{ d.f with mode := 0 }, d.t⟩), (d.f.chip.ws.drop i).take n, 0) := by
    unfold dRead
    rw [if_neg (by omega)]
    by_cases h0 : n = 0
    · subst h0
      simp
    · rw [if_neg (by omega), if_pos (h.refuse i (by omega) (by omega)), if_pos (by rw [h.len]; omega), if_neg h0]
      rfl
  refine ⟨e, read_calm h.ok i n, ?_⟩
  rw [e]
  simp only
  split
  · exact h.plain
  · exact h.plain

/-! ### Words, one behind the other -/
def progWs (ws : List (BitVec 32)) (i : Nat) : List (BitVec 32) → List (BitVec 32)
  | [] => ws
  | v :: l => progWs (ws.set i (wd ws i &&& v)) (i + 1) l
theorem progWs_length (l : List (BitVec 32)) : ∀ (ws : List (BitVec 32)) (i : Nat), (progWs ws i l).length = ws.length := by
  induction l with
  | nil => intro ws i; rfl
  | cons v l ih => intro ws i; rw [progWs, ih, List.length_set]
theorem progWs_get (l : List (BitVec 32)) : ∀ (ws : List (BitVec 32)) (i j : Nat), i + l.length ≤ ws.length → wd (progWs ws i l) j = if i ≤ j ∧ j < i + l.length then wd ws j &&& wd l (j - i) else wd ws j := by
  induction l with
  | nil => intro ws i j _; rw [if_neg (by simp)]; rfl
  | cons v l ih =>
    intro ws i j hl
    simp only [List.length_cons] at hl ⊢
    rw [progWs, ih _ _ _ (by rw [List.length_set]; omega)]
    by_cases hji : i = j
    · subst hji
      rw [if_neg (by omega), if_pos (by omega), wd_set_self _ _ _ (by omega), Nat.sub_self]
      rfl
    · rw [wd_set_other _ _ _ _ hji]
      by_cases hin : i + 1 ≤ j ∧ j < i + 1 + l.length
      · rw [if_pos hin, if_pos (by omega), show j - i = (j - (i + 1)) + 1 by omega]
        rfl
      · rw [if_neg hin, if_neg (by omega)]
def progD (d : DrvM) (i : Nat) (l : List (BitVec 32)) : DrvM := ⟨{ d.f with mode := if l = [] then d.f.mode else 1, chip := { d.f.chip with ws := progWs d.f.chip.ws i l } }, d.t + 3 * l.length⟩
theorem Fit.program (l : List (BitVec 32)) : ∀ {d : DrvM} (i : Nat), Fit k d → i + l.length ≤ k * 64 → (∀ b, lk d.f.locks b = false) → dProgram d i l = (progD d i l, 0) ∧ Fit k (progD d i l) := by
  induction l with
  | nil =>
    intro d i h _ _
    have e : progD d i [] = d := by
      unfold progD
      simp [progWs]
    rw [e]
    exact ⟨rfl, h⟩
  | cons v l ih =>
    intro d i h hi hl
    simp only [List.length_cons] at hi
    obtain ⟨e, f⟩ := h.put i v (by omega) (hl _)
    obtain ⟨e2, f2⟩ := ih (d := putD d i v) (i + 1) f (by omega) hl
    have e3 : progD (putD d i v) (i + 1) l = progD d i (v :: l) := by
      unfold progD putD
      simp only [progWs, List.length_cons]
      rw [show d.t + 3 + 3 * (l.length : Int) = d.t + 3 * ((l.length + 1 : Nat) : Int) by omega]
      simp
    rw [e3] at e2 f2
    refine ⟨?_, f2⟩
    rw [dProgram, e, if_pos rfl]
    exact e2
theorem Fit.new (k : Nat) (e : Int) (k1 : 1 ≤ k) (k2 : k ≤ 64) (e0 : 0 ≤ e) (e1 : e ≤ 9223372036854775807) : Fit k ⟨fNew (mNew k e), 0⟩ :=
  ⟨⟨FlashOk.new (ChipOk.of _ k e k1 k2 (by simp) e0 e1), ⟨rfl, rfl, rfl⟩⟩, Plain.new k e⟩
end
end Go.Proofs.Ytfckgfimmoinmaa
