/- A driver as plain data, and what becomes of it by each call (chapter 5 of the document). -/
import Derived.Test.YtfckgfimmoinmaaCfiFacts
import Derived.Test.YtfckgfimmoinmaaCfiFacts2
namespace Go.Proofs.Ytfckgfimmoinmaa
open Bm

/-- A flash between a driver's calls. -/
structure Calm (m : FlashM) : Prop where
  job : m.job = 0
  wait : m.wait = 0
  errors : m.errors = 0#32

structure DrvM where
  f : FlashM
  t : Int

def dPut (d : DrvM) (a : Int) (v : BitVec 32) : DrvM × Int :=
  if fRefuse d.f a = 0 then
    (if lk d.f.locks (a.toNat / 64) = true then (⟨{ d.f with mode := 1 }, d.t⟩, 6)
     else (⟨{ d.f with mode := 1, chip := (mProgram d.f.chip a v).1 }, d.t + 3⟩, (mProgram d.f.chip a v).2))
  else (d, fRefuse d.f a)
def dProgram : DrvM → Int → List (BitVec 32) → DrvM × Int
  | d, _, [] => (d, 0)
  | d, a, v :: l => if (dPut d a v).2 = 0 then dProgram (dPut d a v).1 (a + 1) l else dPut d a v
def dErase (d : DrvM) (b : Int) : DrvM × Int :=
  if fRefuse d.f (b * 64) = 0 then
    (if lk d.f.locks b.toNat = true then (⟨{ d.f with mode := 1 }, d.t⟩, 6)
     else (⟨{ d.f with mode := 1, chip := (mErase d.f.chip b).1 }, d.t + 20⟩, (mErase d.f.chip b).2))
  else (d, fRefuse d.f (b * 64))
def dLock (d : DrvM) (b : Int) (on : Bool) : DrvM × Int :=
  if fRefuse d.f (b * 64) = 0 then (⟨{ d.f with mode := 1, locks := d.f.locks.set b.toNat on }, d.t⟩, 0) else (d, fRefuse d.f (b * 64))
/-- The driver behind Read, the words, the answer. -/
def dRead (d : DrvM) (a many : Int) : DrvM × List (BitVec 32) × Int :=
  if many < 0 ∨ 64 < many then (d, [], 2) else if many = 0 then (d, [], 0)
  else if fRefuse d.f a = 0 then
    (if a + many ≤ d.f.chip.ws.length then (⟨{ d.f with mode := 0 }, d.t⟩, (d.f.chip.ws.drop a.toNat).take many.toNat, 0) else (⟨{ d.f with mode := 0 }, d.t⟩, [], 3))
  else (d, [], fRefuse d.f a)

/-- The error bits that a driver meets, and what it answers. -/
def Bits (e : BitVec 32) : Prop := e = 0#32 ∨ e = 18#32 ∨ e = 34#32 ∨ e = 32#32
def dCode (e : BitVec 32) : Int := if e = 0#32 then 0 else if e = 32#32 then 5 else 6
/-- The status is checked. -/
def dCheck (m : FlashM) : FlashM × Int := if m.errors = 0#32 then (m, 0) else ({ m with mode := 1, errors := 0#32 }, dCode m.errors)
/-- What is waited for, done; what comes behind. -/
def dWait (d : DrvM) : DrvM × Int :=
  if d.f.job = 0 then (⟨(dCheck d.f).1, d.t⟩, (dCheck d.f).2)
  else if (fDone d.f).2 = 0 then (⟨(dCheck (fDone d.f).1).1, d.t + d.f.left⟩, (dCheck (fDone d.f).1).2) else (⟨(fDone d.f).1, d.t + d.f.left⟩, (fDone d.f).2)

section
variable {k : Nat} {m : FlashM}
theorem Calm.idle (h : Calm m) (hu : m.chip.up = true) : Idle m := ⟨hu, h.wait, h.job⟩
theorem FlashOk.calmMode (h : FlashOk k m) (c : Calm m) (x : Int) (hx : x = 0 ∨ x = 1 ∨ x = 2 ∨ x = 3) : FlashOk k { m with mode := x } := h.modeTo c.job x hx
theorem Calm.modeTo (c : Calm m) (x : Int) : Calm { m with mode := x } := ⟨c.job, c.wait, c.errors⟩
theorem Calm.chipTo (c : Calm m) (x : Int) (y : ChipM) : Calm { m with mode := x, chip := y } := ⟨c.job, c.wait, c.errors⟩
theorem Calm.eta (h : FlashOk k m) (c : Calm m) : m = ⟨m.chip, m.mode, 0, 0#32, m.locks, 0, 0, 0#32, 0⟩ := by
  obtain ⟨h1, h2, h3⟩ := h.idle c.job
  obtain ⟨j, w, e⟩ := c
  cases m
  simp only at h1 h2 h3 j w e
  subst h1 h2 h3 j w e
  rfl

/-! ### Program -/
/-- A flash that has begun to program a word; n ticks are left. -/
def progM (m : FlashM) (i : Nat) (v : BitVec 32) (n : Int) : FlashM := { m with mode := 1, job := 64, at_ := i, v := v, left := n }
def erasM (m : FlashM) (b : Nat) (n : Int) : FlashM := { m with mode := 1, job := 32, at_ := b, left := n }
def waitsM (m : FlashM) (x : Int) : FlashM := { m with mode := 1, wait := x }
def lockedM (m : FlashM) (e : BitVec 32) : FlashM := { m with mode := 1, errors := e }

theorem calm_first (c : Calm m) (a : Int) (hr : fRefuse m a = 0) : fWrite m a 64#32 = (waitsM m 64, 0) ∧ fWrite m a 32#32 = (waitsM m 32, 0) ∧ fWrite m a 96#32 = (waitsM m 96, 0) ∧ fWrite m a 255#32 = ({ m with mode := 0 }, 0) := by
  obtain ⟨hu, h0, h1⟩ := fRefuse_zero hr
  have I := c.idle hu
  exact ⟨I.write a h0 h1 _ 64#32 rfl, I.write a h0 h1 _ 32#32 rfl, I.write a h0 h1 _ 96#32 rfl, I.write a h0 h1 _ 255#32 rfl⟩
theorem calm_far (a : Int) (v : BitVec 32) (hr : fRefuse m a ≠ 0) : fWrite m a v = (m, fRefuse m a) := if_neg hr
theorem waits_write (c : Calm m) (x : Int) (hx : x ≠ 0) (a : Int) (v : BitVec 32) (hr : fRefuse m a = 0) : fWrite (waitsM m x) a v = (fWaited (waitsM m x) a.toNat v, 0) := by
  have e : fRefuse (waitsM m x) a = 0 := hr
  unfold fWrite
  rw [if_pos e]
  unfold fWriteDo
  rw [if_neg (show ¬ (waitsM m x).job ≠ 0 by simp [waitsM, c.job]), if_pos (show (waitsM m x).wait ≠ 0 from hx)]
theorem prog_second (c : Calm m) (a : Int) (v : BitVec 32) (hr : fRefuse m a = 0) :
    fWrite (waitsM m 64) a v = (if lk m.locks (a.toNat / 64) = true then lockedM m 18#32 else progM m a.toNat v 3, 0) := by
  rw [waits_write c 64 (by decide) a v hr]
  obtain ⟨j, w, e⟩ := c
  cases m
  simp only at j w e
  subst j w e
  unfold fWaited fProgram waitsM progM lockedM fWith
  rw [if_pos rfl]
  split <;> simp_all
theorem erase_second (c : Calm m) (a : Int) (hr : fRefuse m a = 0) :
    fWrite (waitsM m 32) a 208#32 = (if lk m.locks (a.toNat / 64) = true then lockedM m 34#32 else erasM m (a.toNat / 64) 20, 0) := by
  rw [waits_write c 32 (by decide) a _ hr]
  obtain ⟨j, w, e⟩ := c
  cases m
  simp only at j w e
  subst j w e
  unfold fWaited fErase waitsM erasM lockedM fWith
  rw [if_neg (by simp), if_pos rfl, if_neg (by simp)]
  split <;> simp_all
theorem lock_second (c : Calm m) (a : Int) (on : Bool) (hr : fRefuse m a = 0) :
    fWrite (waitsM m 96) a (if on then 1#32 else 208#32) = ({ m with mode := 1, locks := m.locks.set (a.toNat / 64) on }, 0) := by
  rw [waits_write c 96 (by decide) a _ hr]
  obtain ⟨j, w, e⟩ := c
  cases m
  simp only at j w e
  subst j w e
  unfold fWaited fLock waitsM
  rw [if_neg (by simp), if_neg (by simp)]
  cases on
  · rw [if_neg (by decide), if_pos (by decide)]
  · rw [if_pos (by decide)]

theorem waitsM_ok (h : FlashOk k m) (c : Calm m) (x : Int) (hx : x = 0 ∨ x = 64 ∨ x = 32 ∨ x = 96) : FlashOk k (waitsM m x) := h.waitTo c.job x hx
theorem progM_ok (h : FlashOk k m) (c : Calm m) (i : Nat) (hi : i < m.chip.ws.length) (v : BitVec 32) (n : Int) (n0 : 0 < n) (n1 : n ≤ 20) : FlashOk k (progM m i v n) :=
  ⟨h.chip, .inr (.inl rfl), h.wait, h.errors, h.locks, by simp [progM], by simp [progM], fun _ => ⟨rfl, c.wait, n0, n1⟩, fun _ => hi, by simp [progM]⟩
theorem erasM_ok (h : FlashOk k m) (c : Calm m) (b : Nat) (hb : b < m.chip.wear.length) (n : Int) (n0 : 0 < n) (n1 : n ≤ 20) : FlashOk k (erasM m b n) :=
  ⟨h.chip, .inr (.inl rfl), h.wait, h.errors, h.locks, by simp [erasM], by simp [erasM], fun _ => ⟨rfl, c.wait, n0, n1⟩, by simp [erasM], fun _ => hb⟩
theorem lockedM_ok (h : FlashOk k m) (c : Calm m) (e : BitVec 32) (he : e &&& 128#32 = 0#32) : FlashOk k (lockedM m e) :=
  ⟨h.chip, .inr (.inl rfl), h.wait, he, h.locks, h.job, h.idle, fun j => absurd c.job j, h.prog, h.erase⟩
theorem locksM_ok (h : FlashOk k m) (c : Calm m) (l : List Bool) (hl : l.length = 64) : FlashOk k { m with mode := 1, locks := l } :=
  ⟨h.chip, .inr (.inl rfl), h.wait, h.errors, hl, h.job, h.idle, fun j => absurd c.job j, h.prog, h.erase⟩

theorem prog_err (c : ChipM) (i : Nat) (v : BitVec 32) (hr : mRefuse c i c.ws.length = 0) : (mProgram c i v).2 = 0 ∨ (mProgram c i v).2 = 4 := by
  unfold mProgram mErr
  rw [if_pos hr]
  simp only
  split
  · exact .inr rfl
  · exact .inl rfl
theorem prog_done (h : FlashOk k m) (c : Calm m) (i : Nat) (v : BitVec 32) (n : Int) (hr : fRefuse m i = 0) : fDone (progM m i v n) = ({ m with mode := 1, chip := (mProgram m.chip i v).1 }, (mProgram m.chip i v).2) := by
  have e : fJob (progM m i v n) = mProgram m.chip i v := fJob_prog rfl
  have h5 : ¬ (fJob (progM m i v n)).2 = 5 := by
    rw [e]
    rcases prog_err m.chip i v hr with h | h <;> rw [h] <;> decide
  unfold fDone
  rw [if_neg h5, e]
  have e2 := Calm.eta h c
  rw [Prod.mk.injEq]
  refine ⟨?_, rfl⟩
  unfold fIdle progM
  rw [e2]

theorem put_wait (h : FlashOk k m) (c : Calm m) (t : Int) (i : Nat) (v : BitVec 32) (hr : fRefuse m i = 0) :
    dWait ⟨progM m i v 3, t⟩ = (⟨{ m with mode := 1, chip := (mProgram m.chip i v).1 }, t + 3⟩, (mProgram m.chip i v).2) := by
  unfold dWait
  rw [if_neg (show ¬ (progM m i v 3).job = 0 by simp [progM]), prog_done h c i v 3 hr]
  rcases prog_err m.chip i v hr with e | e
  · rw [if_pos e]
    unfold dCheck
    rw [if_pos (show ({ m with mode := 1, chip := (mProgram m.chip i v).1 } : FlashM).errors = 0#32 from c.errors), e]
    rfl
  · rw [if_neg (by rw [e]; decide)]
    rfl
theorem erase_err (c : ChipM) (b : Nat) (hr : mRefuse c b c.wear.length = 0) : (mErase c b).2 = 0 ∨ (mErase c b).2 = 4 ∨ ((mErase c b).2 = 5 ∧ (mErase c b).1 = c) := by
  unfold mErase mErr
  rw [if_pos hr]
  split
  · exact .inr (.inr ⟨rfl, rfl⟩)
  · simp only
    split
    · exact .inr (.inl rfl)
    · exact .inl rfl
theorem eras_wait (h : FlashOk k m) (c : Calm m) (t : Int) (b : Nat) (hr : mRefuse m.chip b m.chip.wear.length = 0) :
    dWait ⟨erasM m b 20, t⟩ = (⟨{ m with mode := 1, chip := (mErase m.chip b).1 }, t + 20⟩, (mErase m.chip b).2) := by
  have e : fJob (erasM m b 20) = mErase m.chip b := fJob_erase rfl
  have e2 := Calm.eta h c
  have e3 : fIdle (erasM m b 20) (mErase m.chip b).1 = { m with mode := 1, chip := (mErase m.chip b).1 } := by
    unfold fIdle erasM
    rw [e2]
  have d1 : (mErase m.chip b).2 ≠ 5 → fDone (erasM m b 20) = ({ m with mode := 1, chip := (mErase m.chip b).1 }, (mErase m.chip b).2) := by
    intro h5
    unfold fDone
    rw [e, if_neg h5, e3]
  have d2 : (mErase m.chip b).2 = 5 → fDone (erasM m b 20) = (fWith { m with mode := 1, chip := (mErase m.chip b).1 } 32#32, 0) := by
    intro h5
    unfold fDone
    rw [e, if_pos h5, e3]
  unfold dWait
  rw [if_neg (show ¬ (erasM m b 20).job = 0 by simp [erasM])]
  rcases erase_err m.chip b hr with h1 | h1 | ⟨h1, h2⟩
  · rw [d1 (by rw [h1]; decide), h1, if_pos rfl]
    unfold dCheck
    rw [if_pos (show ({ m with mode := 1, chip := (mErase m.chip b).1 } : FlashM).errors = 0#32 from c.errors)]
    rfl
  · rw [d1 (by rw [h1]; decide), h1, if_neg (by decide)]
    rfl
  · rw [d2 h1, if_pos rfl, h1]
    unfold dCheck dCode fWith
    simp only [c.errors]
    rw [if_neg (by decide), if_neg (by decide), if_pos (by decide)]
    rfl
end
end Go.Proofs.Ytfckgfimmoinmaa
