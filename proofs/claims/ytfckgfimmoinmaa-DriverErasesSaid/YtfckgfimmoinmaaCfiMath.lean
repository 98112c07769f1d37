/- A flash as plain data, and what becomes of it by each call (chapter 3 of the document). -/
import Derived.Test.YtfckgfimmoinmaaNorMath
namespace Go.Proofs.Ytfckgfimmoinmaa
open Bm

/-- The chip, the mode, what is waited for (0, or the command), the error bits, the locks, the job (0, or the command), its place, its value, its ticks. -/
structure FlashM where
  chip : ChipM
  mode : Int
  wait : Int
  errors : BitVec 32
  locks : List Bool
  job : Int
  at_ : Nat
  v : BitVec 32
  left : Int

def lk (l : List Bool) (i : Nat) : Bool := l.getD i false
theorem lk_set_self (l : List Bool) (i : Nat) (x : Bool) (h : i < l.length) : lk (l.set i x) i = x := by simp [lk, List.getD, h]
theorem lk_set_other (l : List Bool) (i j : Nat) (x : Bool) (h : i ≠ j) : lk (l.set i x) j = lk l j := by simp [lk, List.getD, h]
def noLocks : List Bool := List.replicate 64 false
theorem lk_none (i : Nat) : lk noLocks i = false := by
  unfold lk noLocks
  simp only [List.getD, List.getElem?_replicate]
  split <;> rfl

structure FlashOk (k : Nat) (m : FlashM) : Prop where
  chip : ChipOk k m.chip
  mode : m.mode = 0 ∨ m.mode = 1 ∨ m.mode = 2 ∨ m.mode = 3
  wait : m.wait = 0 ∨ m.wait = 64 ∨ m.wait = 32 ∨ m.wait = 96
  errors : m.errors &&& 128#32 = 0#32
  locks : m.locks.length = 64
  job : m.job = 0 ∨ m.job = 64 ∨ m.job = 32
  idle : m.job = 0 → m.at_ = 0 ∧ m.v = 0#32 ∧ m.left = 0
  busy : m.job ≠ 0 → m.mode = 1 ∧ m.wait = 0 ∧ 0 < m.left ∧ m.left ≤ 20
  prog : m.job = 64 → m.at_ < m.chip.ws.length
  erase : m.job = 32 → m.at_ < m.chip.wear.length

def fStatus (m : FlashM) : BitVec 32 := if m.job = 0 then m.errors ||| 128#32 else m.errors
def fWith (m : FlashM) (b : BitVec 32) : FlashM := { m with errors := m.errors ||| b }

/-- What a command does (low: its lowest 8 bits). -/
def fCommand (m : FlashM) (low : BitVec 32) : FlashM :=
  if low = 255#32 then { m with mode := 0 }
  else if low = 112#32 then { m with mode := 1 }
  else if low = 144#32 then { m with mode := 2 }
  else if low = 152#32 then { m with mode := 3 }
  else if low = 80#32 then { m with mode := 1, errors := 0#32 }
  else if low = 64#32 then { m with mode := 1, wait := 64 }
  else if low = 32#32 then { m with mode := 1, wait := 32 }
  else if low = 96#32 then { m with mode := 1, wait := 96 }
  else fWith { m with mode := 1 } 48#32

/-- The three that belong to a command; m waits for nothing any more. -/
def fProgram (m : FlashM) (i : Nat) (v : BitVec 32) : FlashM :=
  if lk m.locks (i / 64) = true then fWith m 18#32 else { m with job := 64, at_ := i, v := v, left := 3 }
def fErase (m : FlashM) (i : Nat) (low : BitVec 32) : FlashM :=
  if low ≠ 208#32 then fWith m 48#32 else if lk m.locks (i / 64) = true then fWith m 34#32 else { m with job := 32, at_ := i / 64, left := 20 }
def fLock (m : FlashM) (i : Nat) (low : BitVec 32) : FlashM :=
  if low = 1#32 then { m with locks := m.locks.set (i / 64) true } else if low = 208#32 then { m with locks := m.locks.set (i / 64) false } else fWith m 48#32
def fWaited (m : FlashM) (i : Nat) (v : BitVec 32) : FlashM :=
  if m.wait = 64 then fProgram { m with wait := 0, mode := 1 } i v
  else if m.wait = 32 then fErase { m with wait := 0, mode := 1 } i (v &&& 255#32)
  else fLock { m with wait := 0, mode := 1 } i (v &&& 255#32)

def fRefuse (m : FlashM) (a : Int) : Int := mRefuse m.chip a m.chip.ws.length

def fWriteDo (m : FlashM) (i : Nat) (v : BitVec 32) : FlashM :=
  if m.job ≠ 0 then m else if m.wait ≠ 0 then fWaited m i v else fCommand m (v &&& 255#32)
def fWrite (m : FlashM) (a : Int) (v : BitVec 32) : FlashM × Int :=
  if fRefuse m a = 0 then (fWriteDo m a.toNat v, 0) else (m, fRefuse m a)

def fId (m : FlashM) (i : Nat) : BitVec 32 :=
  if i % 64 = 0 then 137#32 else if i % 64 = 1 then 24#32 else if i % 64 = 2 then (if lk m.locks (i / 64) = true then 1#32 else 0#32) else 0#32
def fQuery (m : FlashM) (i : Nat) : BitVec 32 :=
  if i = 16 then 81#32 else if i = 17 then 82#32 else if i = 18 then 89#32 else if i = 44 then BitVec.ofNat 32 m.chip.wear.length else 0#32
def fReadDo (m : FlashM) (i : Nat) : BitVec 32 :=
  if m.mode = 0 then wd m.chip.ws i else if m.mode = 2 then fId m i else if m.mode = 3 then fQuery m i else fStatus m
def fRead (m : FlashM) (a : Int) : BitVec 32 × Int :=
  if fRefuse m a = 0 then (fReadDo m a.toNat, 0) else (0#32, fRefuse m a)

/-- The chip behind the job, and its answer. -/
def fJob (m : FlashM) : ChipM × Int := if m.job = 64 then mProgram m.chip m.at_ m.v else mErase m.chip m.at_
def fIdle (m : FlashM) (c : ChipM) : FlashM := { m with chip := c, job := 0, at_ := 0, v := 0#32, left := 0 }
def fDone (m : FlashM) : FlashM × Int :=
  if (fJob m).2 = 5 then (fWith (fIdle m (fJob m).1) 32#32, 0) else (fIdle m (fJob m).1, (fJob m).2)
def fTick (m : FlashM) (n : Int) : FlashM × Int :=
  if fRefuse m 0 ≠ 0 then (m, fRefuse m 0) else if n < 0 then (m, 2) else if m.job = 0 then (m, 0)
  else if n < m.left then ({ m with left := m.left - n }, 0) else fDone m
def fReset (m : FlashM) : FlashM := ⟨m.chip, 0, 0, 0#32, noLocks, 0, 0, 0#32, 0⟩
def fNew (c : ChipM) : FlashM := ⟨c, 0, 0, 0#32, noLocks, 0, 0, 0#32, 0⟩

theorem or_and_zero {a b c : BitVec 32} (h : a &&& c = 0#32) (k : b &&& c = 0#32) : (a ||| b) &&& c = 0#32 := by
  have e : (a ||| b) &&& c = (a &&& c) ||| (b &&& c) := by
    apply BitVec.eq_of_getLsbD_eq
    intro i _
    simp only [BitVec.getLsbD_and, BitVec.getLsbD_or]
    cases a.getLsbD i <;> cases b.getLsbD i <;> simp
  rw [e, h, k]
  rfl

section
variable {k : Nat} {m : FlashM}
theorem FlashOk.with (h : FlashOk k m) (b : BitVec 32) (hb : b &&& 128#32 = 0#32) : FlashOk k (fWith m b) :=
  ⟨h.chip, h.mode, h.wait, or_and_zero h.errors hb, h.locks, h.job, h.idle, h.busy, h.prog, h.erase⟩
theorem FlashOk.modeTo (h : FlashOk k m) (j : m.job = 0) (x : Int) (hx : x = 0 ∨ x = 1 ∨ x = 2 ∨ x = 3) : FlashOk k { m with mode := x } :=
  ⟨h.chip, hx, h.wait, h.errors, h.locks, h.job, h.idle, fun e => absurd j e, h.prog, h.erase⟩
theorem FlashOk.waitTo (h : FlashOk k m) (j : m.job = 0) (x : Int) (hx : x = 0 ∨ x = 64 ∨ x = 32 ∨ x = 96) : FlashOk k { m with mode := 1, wait := x } :=
  ⟨h.chip, .inr (.inl rfl), hx, h.errors, h.locks, h.job, h.idle, fun e => absurd j e, h.prog, h.erase⟩
theorem FlashOk.command (h : FlashOk k m) (j : m.job = 0) (low : BitVec 32) : FlashOk k (fCommand m low) := by
  unfold fCommand
  repeat' split
  · exact h.modeTo j 0 (by simp)
  · exact h.modeTo j 1 (by simp)
  · exact h.modeTo j 2 (by simp)
  · exact h.modeTo j 3 (by simp)
  · exact ⟨h.chip, .inr (.inl rfl), h.wait, by simp, h.locks, h.job, h.idle, fun e => absurd j e, h.prog, h.erase⟩
  · exact h.waitTo j 64 (by simp)
  · exact h.waitTo j 32 (by simp)
  · exact h.waitTo j 96 (by simp)
  · exact (h.modeTo j 1 (by simp)).with _ (by decide)
theorem FlashOk.program (h : FlashOk k m) (_j : m.job = 0) (o : m.mode = 1) (q : m.wait = 0) (i : Nat) (v : BitVec 32) (hi : i < m.chip.ws.length) : FlashOk k (fProgram m i v) := by
  unfold fProgram
  split
  · exact h.with _ (by decide)
  · exact ⟨h.chip, h.mode, h.wait, h.errors, h.locks, by simp, by simp, fun _ => ⟨o, q, by simp⟩, fun _ => hi, by simp⟩
theorem FlashOk.eraseW (h : FlashOk k m) (_j : m.job = 0) (o : m.mode = 1) (q : m.wait = 0) (i : Nat) (low : BitVec 32) (hi : i < m.chip.ws.length) : FlashOk k (fErase m i low) := by
  unfold fErase
  split
  · exact h.with _ (by decide)
  · split
    · exact h.with _ (by decide)
    · exact ⟨h.chip, h.mode, h.wait, h.errors, h.locks, by simp, by simp, fun _ => ⟨o, q, by simp⟩, by simp, fun _ => by
        have a := h.chip.words
        have b := h.chip.wears
        show i / 64 < m.chip.wear.length
        omega⟩
theorem FlashOk.lock (h : FlashOk k m) (i : Nat) (low : BitVec 32) : FlashOk k (fLock m i low) := by
  unfold fLock
  split
  · exact ⟨h.chip, h.mode, h.wait, h.errors, by simpa using h.locks, h.job, h.idle, h.busy, h.prog, h.erase⟩
  · split
    · exact ⟨h.chip, h.mode, h.wait, h.errors, by simpa using h.locks, h.job, h.idle, h.busy, h.prog, h.erase⟩
    · exact h.with _ (by decide)
theorem FlashOk.waited (h : FlashOk k m) (j : m.job = 0) (i : Nat) (v : BitVec 32) (hi : i < m.chip.ws.length) : FlashOk k (fWaited m i v) := by
  have g := h.waitTo j 0 (by simp)
  have e : ({ m with wait := 0, mode := 1 } : FlashM) = { m with mode := 1, wait := 0 } := rfl
  unfold fWaited
  rw [e]
  split
  · exact g.program j rfl rfl i v hi
  · split
    · exact g.eraseW j rfl rfl i _ hi
    · exact g.lock i _
theorem FlashOk.writeDo (h : FlashOk k m) (i : Nat) (v : BitVec 32) (hi : i < m.chip.ws.length) : FlashOk k (fWriteDo m i v) := by
  unfold fWriteDo
  split
  · exact h
  · rename_i j
    have j : m.job = 0 := Classical.not_not.1 j
    split
    · exact h.waited j i v hi
    · exact h.command j _
theorem fRefuse_zero {a : Int} (h : fRefuse m a = 0) : m.chip.up = true ∧ 0 ≤ a ∧ a < m.chip.ws.length := refuse_zero h
theorem FlashOk.write (h : FlashOk k m) (a : Int) (v : BitVec 32) : FlashOk k (fWrite m a v).1 := by
  unfold fWrite
  split
  · rename_i hr
    obtain ⟨_, h1, h2⟩ := fRefuse_zero hr
    exact h.writeDo _ _ (by omega)
  · exact h
theorem fJob_len : (fJob m).1.ws.length = m.chip.ws.length := by
  unfold fJob
  split
  · unfold mProgram; split
    · simp [mProgramDo]
    · rfl
  · unfold mErase; split
    · split
      · rfl
      · simp [mEraseDo, eraseTo_length]
    · rfl
theorem FlashOk.idleTo (h : FlashOk k m) (c : ChipM) (hc : ChipOk k c) : FlashOk k (fIdle m c) :=
  ⟨hc, h.mode, h.wait, h.errors, h.locks, .inl rfl, fun _ => ⟨rfl, rfl, rfl⟩, fun e => absurd rfl e, by simp [fIdle], by simp [fIdle]⟩
theorem FlashOk.jobChip (h : FlashOk k m) : ChipOk k (fJob m).1 := by
  unfold fJob
  split
  · exact h.chip.program _ _
  · exact h.chip.erase _
theorem FlashOk.done (h : FlashOk k m) : FlashOk k (fDone m).1 := by
  unfold fDone
  split
  · exact (h.idleTo _ h.jobChip).with _ (by decide)
  · exact h.idleTo _ h.jobChip
theorem FlashOk.tick (h : FlashOk k m) (n : Int) : FlashOk k (fTick m n).1 := by
  unfold fTick
  repeat' split
  · exact h
  · exact h
  · exact h
  · rename_i j hn
    have b := h.busy j
    exact ⟨h.chip, h.mode, h.wait, h.errors, h.locks, h.job, fun e => absurd e j, fun _ => ⟨b.1, b.2.1, by show 0 < m.left - n; omega, by show m.left - n ≤ 20; omega⟩, h.prog, h.erase⟩
  · exact h.done
theorem FlashOk.reset (h : FlashOk k m) : FlashOk k (fReset m) :=
  ⟨h.chip, .inl rfl, .inl rfl, by simp [fReset], by simp [fReset, noLocks], .inl rfl, fun _ => ⟨rfl, rfl, rfl⟩, fun e => absurd rfl e, by simp [fReset], by simp [fReset]⟩
theorem FlashOk.new {c : ChipM} (h : ChipOk k c) : FlashOk k (fNew c) :=
  ⟨h, .inl rfl, .inl rfl, by simp [fNew], by simp [fNew, noLocks], .inl rfl, fun _ => ⟨rfl, rfl, rfl⟩, fun e => absurd rfl e, by simp [fNew], by simp [fNew]⟩
/-- Another chip state, of as many blocks (the flash's own Fuse, On). -/
theorem FlashOk.chipTo (h : FlashOk k m) (c : ChipM) (hc : ChipOk k c) : FlashOk k { m with chip := c } :=
  ⟨hc, h.mode, h.wait, h.errors, h.locks, h.job, h.idle, h.busy, fun j => by have := h.prog j; have a := h.chip.words; have b := hc.words; show m.at_ < c.ws.length; omega, fun j => by have := h.erase j; have a := h.chip.wears; have b := hc.wears; show m.at_ < c.wear.length; omega⟩
end
end Go.Proofs.Ytfckgfimmoinmaa
