/- A driver as plain data, and what becomes of it by each call (chapter 5 of the document). | A driver waits: tick by tick. | A driver's calls, out of what is written, and what is waited for. | A driver, its flash and its chip as a statement's walk has them. -/
import Derived.Test.YtpkkejdjhnmjiaaGreatCfiFacts
import Derived.Test.YtpkkejdjhnmjiaaGreatCfiS
import Derived.Test.YtpkkejdjhnmjiaaGreatNorLawM
import Derived.Test.YtpkkejdjhnmjiaaGreatOpens
namespace Go.Proofs.YtpkkejdjhnmjiaaGreat
open Bm
structure Calm (m : FlashM) : Prop where
  job : m.job = 0
  wait : m.wait = 0
  errors : m.errors = 0#32
structure DrvM where
  f : FlashM
  t : Int
def dPut (d : DrvM) (a : Int) (v : BitVec 32) : DrvM × Int :=
  if fRefuse d.f a = 0 then
    (if lk d.f.locks (a.toNat / 64) = true then (⟨{ d.f with mode := 1 }, d.t⟩, 6)
     else (⟨{ d.f with mode := 1, chip := (mProgram d.f.chip a v).1 }, d.t + 3⟩, (mProgram d.f.chip a v).2))
  else (d, fRefuse d.f a)
def dProgram : DrvM → Int → List (BitVec 32) → DrvM × Int
  | d, _, [] => (d, 0)
  | d, a, v :: l => if (dPut d a v).2 = 0 then dProgram (dPut d a v).1 (a + 1) l else dPut d a v
def dErase (d : DrvM) (b : Int) : DrvM × Int :=
  if fRefuse d.f (b * 64) = 0 then
    (if lk d.f.locks b.toNat = true then (⟨{ d.f with mode := 1 }, d.t⟩, 6)
     else (⟨{ d.f with mode := 1, chip := (mErase d.f.chip b).1 }, d.t + 20⟩, (mErase d.f.chip b).2))
  else (d, fRefuse d.f (b * 64))
def dRead (d : DrvM) (a many : Int) : DrvM × List (BitVec 32) × Int :=
  if many < 0 ∨ 64 < many then (d, [], 2) else if many = 0 then (d, [], 0)
  else if fRefuse d.f a = 0 then
    (if a + many ≤ d.f.chip.ws.length then (⟨{ d.f with mode := 0 }, d.t⟩, (d.f.chip.ws.drop a.toNat).take many.toNat, 0) else (⟨{ d.f with mode := 0 }, d.t⟩, [], 3))
  else (d, [], fRefuse d.f a)
def Bits (e : BitVec 32) : Prop := e = 0#32 ∨ e = 18#32 ∨ e = 34#32 ∨ e = 32#32
def dCode (e : BitVec 32) : Int := if e = 0#32 then 0 else if e = 32#32 then 5 else 6
def dCheck (m : FlashM) : FlashM × Int := if m.errors = 0#32 then (m, 0) else ({ m with mode := 1, errors := 0#32 }, dCode m.errors)
def dWait (d : DrvM) : DrvM × Int :=
  if d.f.job = 0 then (⟨(dCheck d.f).1, d.t⟩, (dCheck d.f).2)
  else if (fDone d.f).2 = 0 then (⟨(dCheck (fDone d.f).1).1, d.t + d.f.left⟩, (dCheck (fDone d.f).1).2) else (⟨(fDone d.f).1, d.t + d.f.left⟩, (fDone d.f).2)
section
variable {k : Nat} {m : FlashM}
theorem Calm.idle (h : Calm m) (hu : m.chip.up = true) : Idle m := ⟨hu, h.wait, h.job⟩
theorem FlashOk.calmMode (h : FlashOk k m) (c : Calm m) (x : Int) (hx : x = 0 ∨ x = 1 ∨ x = 2 ∨ x = 3) : FlashOk k { m with mode := x } := h.modeTo c.job x hx
theorem Calm.modeTo (c : Calm m) (x : Int) : Calm { m with mode := x } := ⟨c.job, c.wait, c.errors⟩
theorem Calm.chipTo (c : Calm m) (x : Int) (y : ChipM) : Calm { m with mode := x, chip := y } := ⟨c.job, c.wait, c.errors⟩
theorem Calm.eta (h : FlashOk k m) (c : Calm m) : m = ⟨m.chip, m.mode, 0, 0#32, m.locks, 0, 0, 0#32, 0⟩ := by
  obtain ⟨h1, h2, h3⟩ := h.idle c.job
  obtain ⟨j, w, e⟩ := c
  cases m
  simp only at h1 h2 h3 j w e
  subst h1 h2 h3 j w e
  rfl
def progM (m : FlashM) (i : Nat) (v : BitVec 32) (n : Int) : FlashM := { m with mode := 1, job := 64, at_ := i, v := v, left := n }
def erasM (m : FlashM) (b : Nat) (n : Int) : FlashM := { m with mode := 1, job := 32, at_ := b, left := n }
def waitsM (m : FlashM) (x : Int) : FlashM := { m with mode := 1, wait := x }
def lockedM (m : FlashM) (e : BitVec 32) : FlashM := { m with mode := 1, errors := e }
theorem calm_first (c : Calm m) (a : Int) (hr : fRefuse m a = 0) : fWrite m a 64#32 = (waitsM m 64, 0) ∧ fWrite m a 32#32 = (waitsM m 32, 0) ∧ fWrite m a 96#32 = (waitsM m 96, 0) ∧ fWrite m a 255#32 = ({ m with mode := 0 }, 0) := by
  obtain ⟨hu, h0, h1⟩ := fRefuse_zero hr
  have I := c.idle hu
  exact ⟨I.write a h0 h1 _ 64#32 rfl, I.write a h0 h1 _ 32#32 rfl, I.write a h0 h1 _ 96#32 rfl, I.write a h0 h1 _ 255#32 rfl⟩
theorem calm_far (a : Int) (v : BitVec 32) (hr : fRefuse m a ≠ 0) : fWrite m a v = (m, fRefuse m a) := if_neg hr
theorem waits_write (c : Calm m) (x : Int) (hx : x ≠ 0) (a : Int) (v : BitVec 32) (hr : fRefuse m a = 0) : fWrite (waitsM m x) a v = (fWaited (waitsM m x) a.toNat v, 0) := by
  have e : fRefuse (waitsM m x) a = 0 := hr
  unfold fWrite
  rw [if_pos e]
  unfold fWriteDo
  rw [if_neg (show ¬ (waitsM m x).job ≠ 0 by simp [waitsM, c.job]), if_pos (show (waitsM m x).wait ≠ 0 from hx)]
theorem prog_second (c : Calm m) (a : Int) (v : BitVec 32) (hr : fRefuse m a = 0) :
    fWrite (waitsM m 64) a v = (if lk m.locks (a.toNat / 64) = true then lockedM m 18#32 else progM m a.toNat v 3, 0) := by
  rw [waits_write c 64 (by decide) a v hr]
  obtain ⟨j, w, e⟩ := c
  cases m
  simp only at j w e
  subst j w e
  unfold fWaited fProgram waitsM progM lockedM fWith
  rw [if_pos rfl]
  split <;> simp_all
theorem erase_second (c : Calm m) (a : Int) (hr : fRefuse m a = 0) :
    fWrite (waitsM m 32) a 208#32 = (if lk m.locks (a.toNat / 64) = true then lockedM m 34#32 else erasM m (a.toNat / 64) 20, 0) := by
  rw [waits_write c 32 (by decide) a _ hr]
  obtain ⟨j, w, e⟩ := c
  cases m
  simp only at j w e
  subst j w e
  unfold fWaited fErase waitsM erasM lockedM fWith
  rw [if_neg (by simp), if_pos rfl, if_neg (by simp)]
  split <;> simp_all
theorem progM_ok (h : FlashOk k m) (c : Calm m) (i : Nat) (hi : i < m.chip.ws.length) (v : BitVec 32) (n : Int) (n0 : 0 < n) (n1 : n ≤ 20) : FlashOk k (progM m i v n) :=
  ⟨h.chip, .inr (.inl rfl), h.wait, h.errors, h.locks, by simp [progM], by simp [progM], fun _ => ⟨rfl, c.wait, n0, n1⟩, fun _ => hi, by simp [progM]⟩
theorem erasM_ok (h : FlashOk k m) (c : Calm m) (b : Nat) (hb : b < m.chip.wear.length) (n : Int) (n0 : 0 < n) (n1 : n ≤ 20) : FlashOk k (erasM m b n) :=
  ⟨h.chip, .inr (.inl rfl), h.wait, h.errors, h.locks, by simp [erasM], by simp [erasM], fun _ => ⟨rfl, c.wait, n0, n1⟩, by simp [erasM], fun _ => hb⟩
theorem lockedM_ok (h : FlashOk k m) (c : Calm m) (e : BitVec 32) (he : e &&& 128#32 = 0#32) : FlashOk k (lockedM m e) :=
  ⟨h.chip, .inr (.inl rfl), h.wait, he, h.locks, h.job, h.idle, fun j => absurd c.job j, h.prog, h.erase⟩
theorem prog_err (c : ChipM) (i : Nat) (v : BitVec 32) (hr : mRefuse c i c.ws.length = 0) : (mProgram c i v).2 = 0 ∨ (mProgram c i v).2 = 4 := by
  unfold mProgram mErr
  rw [if_pos hr]
  simp only
  split
  · exact .inr rfl
  · exact .inl rfl
theorem prog_done (h : FlashOk k m) (c : Calm m) (i : Nat) (v : BitVec 32) (n : Int) (hr : fRefuse m i = 0) : fDone (progM m i v n) = ({ m with mode := 1, chip := (mProgram m.chip i v).1 }, (mProgram m.chip i v).2) := by
  have e : fJob (progM m i v n) = mProgram m.chip i v := fJob_prog rfl
  have h5 : ¬ (fJob (progM m i v n)).2 = 5 := by
    rw [e]
    rcases prog_err m.chip i v hr with h | h <;> rw [h] <;> decide
  unfold fDone
  rw [if_neg h5, e]
  have e2 := Calm.eta h c
  rw [Prod.mk.injEq]
  refine ⟨?_, rfl⟩
  unfold fIdle progM
  rw [e2]
theorem put_wait (h : FlashOk k m) (c : Calm m) (t : Int) (i : Nat) (v : BitVec 32) (hr : fRefuse m i = 0) :
    dWait ⟨progM m i v 3, t⟩ = (⟨{ m with mode := 1, chip := (mProgram m.chip i v).1 }, t + 3⟩, (mProgram m.chip i v).2) := by
  unfold dWait
  rw [if_neg (show ¬ (progM m i v 3).job = 0 by simp [progM]), prog_done h c i v 3 hr]
  rcases prog_err m.chip i v hr with e | e
  · rw [if_pos e]
    unfold dCheck
    rw [if_pos (show ({ m with mode := 1, chip := (mProgram m.chip i v).1 } : FlashM).errors = 0#32 from c.errors), e]
    rfl
  · rw [if_neg (by rw [e]; decide)]
    rfl
theorem erase_err (c : ChipM) (b : Nat) (hr : mRefuse c b c.wear.length = 0) : (mErase c b).2 = 0 ∨ (mErase c b).2 = 4 ∨ ((mErase c b).2 = 5 ∧ (mErase c b).1 = c) := by
  unfold mErase mErr
  rw [if_pos hr]
  split
  · exact .inr (.inr ⟨rfl, rfl⟩)
  · simp only
    split
    · exact .inr (.inl rfl)
    · exact .inl rfl
theorem eras_wait (h : FlashOk k m) (c : Calm m) (t : Int) (b : Nat) (hr : mRefuse m.chip b m.chip.wear.length = 0) :
    dWait ⟨erasM m b 20, t⟩ = (⟨{ m with mode := 1, chip := (mErase m.chip b).1 }, t + 20⟩, (mErase m.chip b).2) := by
  have e : fJob (erasM m b 20) = mErase m.chip b := fJob_erase rfl
  have e2 := Calm.eta h c
  have e3 : fIdle (erasM m b 20) (mErase m.chip b).1 = { m with mode := 1, chip := (mErase m.chip b).1 } := by
    unfold fIdle erasM
    rw [e2]
  have d1 : (mErase m.chip b).2 ≠ 5 → fDone (erasM m b 20) = ({ m with mode := 1, chip := (mErase m.chip b).1 }, (mErase m.chip b).2) := by
    intro h5
    unfold fDone
    rw [e, if_neg h5, e3]
  have d2 : (mErase m.chip b).2 = 5 → fDone (erasM m b 20) = (fWith { m with mode := 1, chip := (mErase m.chip b).1 } 32#32, 0) := by
    intro h5
    unfold fDone
    rw [e, if_pos h5, e3]
  unfold dWait
  rw [if_neg (show ¬ (erasM m b 20).job = 0 by simp [erasM])]
  rcases erase_err m.chip b hr with h1 | h1 | ⟨h1, h2⟩
  · rw [d1 (by rw [h1]; decide), h1, if_pos rfl]
    unfold dCheck
    rw [if_pos (show ({ m with mode := 1, chip := (mErase m.chip b).1 } : FlashM).errors = 0#32 from c.errors)]
    rfl
  · rw [d1 (by rw [h1]; decide), h1, if_neg (by decide)]
    rfl
  · rw [d2 h1, if_pos rfl, h1]
    unfold dCheck dCode fWith
    simp only [c.errors]
    rw [if_neg (by decide), if_neg (by decide), if_pos (by decide)]
    rfl
end
end Go.Proofs.YtpkkejdjhnmjiaaGreat
namespace Go.Proofs.YtpkkejdjhnmjiaaGreat
open Bm
structure WaitOk (k : Nat) (m : FlashM) : Prop where
  ok : FlashOk k m
  wait : m.wait = 0
  up : m.chip.up = true
  idle : m.job = 0 → Bits m.errors
  busy : m.job ≠ 0 → m.errors = 0#32
section
variable {k : Nat} {m : FlashM}
theorem WaitOk.len (h : WaitOk k m) : 0 < m.chip.ws.length := by
  have a := h.ok.chip.words
  have b := h.ok.chip.k1
  omega
theorem WaitOk.step (h : WaitOk k m) (hj : m.job ≠ 0) (hl : 1 < m.left) (t : Int) :
    fTick m 1 = ({ m with left := m.left - 1 }, 0) ∧ WaitOk k { m with left := m.left - 1 } ∧ dWait ⟨m, t⟩ = dWait ⟨{ m with left := m.left - 1 }, t + 1⟩ := by
  have hb := h.ok.busy hj
  refine ⟨fTick_wait h.up h.len 1 (by omega) hj (by omega), ⟨⟨h.ok.chip, h.ok.mode, h.ok.wait, h.ok.errors, h.ok.locks, h.ok.job, fun e => absurd e hj, fun _ => ⟨hb.1, hb.2.1, by show 0 < m.left - 1; omega, by show m.left - 1 ≤ 20; omega⟩, h.ok.prog, h.ok.erase⟩, h.wait, h.up, h.idle, h.busy⟩, ?_⟩
  unfold dWait
  simp only
  rw [if_neg hj, if_neg hj, show t + 1 + (m.left - 1) = t + m.left by omega]
  rfl
theorem mChange_up {c : ChipM} (h : c.up = true) (hl : c.left ≠ 1) : (mChange c).up = true := by
  unfold mChange
  split
  · exact h
  · first
      | (rw [if_neg hl]; exact h)
      | exact h
theorem mErr_left {c : ChipM} (h : mErr c ≠ 4) : c.left ≠ 1 := by
  intro e
  unfold mErr at h
  rw [if_pos e] at h
  exact h rfl
theorem prog_up {c : ChipM} {a : Int} {v : BitVec 32} (hu : c.up = true) (h : (mProgram c a v).2 = 0) : (mProgram c a v).1.up = true := by
  unfold mProgram at h ⊢
  split
  · rename_i hr
    rw [if_pos hr] at h
    exact mChange_up hu (mErr_left (by simp only at h; omega))
  · exact hu
theorem erase_up {c : ChipM} {b : Int} (hu : c.up = true) (h : (mErase c b).2 = 0 ∨ (mErase c b).2 = 5) : (mErase c b).1.up = true := by
  unfold mErase at h ⊢
  split
  · rename_i hr
    rw [if_pos hr] at h
    split
    · exact hu
    · rename_i he
      rw [if_neg he] at h
      exact mChange_up hu (mErr_left (by simp only at h; omega))
  · exact hu
theorem job_up (hu : m.chip.up = true) (h : (fJob m).2 = 0 ∨ (fJob m).2 = 5) : (fJob m).1.up = true := by
  unfold fJob at h ⊢
  split
  · rename_i hj
    rw [if_pos hj] at h
    rcases h with h | h
    · exact prog_up hu h
    · unfold mProgram at h ⊢
      split
      · rename_i hr
        rw [if_pos hr] at h
        exact mChange_up hu (mErr_left (by simp only at h; omega))
      · exact hu
  · rename_i hj
    rw [if_neg hj] at h
    exact erase_up hu h
theorem WaitOk.last (h : WaitOk k m) (hj : m.job ≠ 0) (hl : m.left = 1) (t : Int) :
    fTick m 1 = fDone m ∧ (fDone m).1.job = 0 ∧ ((fDone m).2 = 0 → WaitOk k (fDone m).1 ∧ dWait ⟨m, t⟩ = dWait ⟨(fDone m).1, t + 1⟩) ∧ ((fDone m).2 ≠ 0 → dWait ⟨m, t⟩ = (⟨(fDone m).1, t + 1⟩, (fDone m).2)) := by
  have j0 : (fDone m).1.job = 0 := by unfold fDone; split <;> rfl
  refine ⟨fTick_done h.up h.len 1 (by omega) hj (by omega), j0, fun h0 => ⟨⟨h.ok.done, ?_, ?_, ?_, fun e => absurd j0 e⟩, ?_⟩, fun h0 => ?_⟩
  · unfold fDone; split <;> exact h.wait
  · unfold fDone at h0 ⊢
    split
    · rename_i h5
      exact job_up h.up (.inr h5)
    · rename_i h5
      rw [if_neg h5] at h0
      exact job_up h.up (.inl h0)
  · intro _
    unfold fDone
    split
    · simp only [fWith, fIdle]
      rw [h.busy hj]
      exact .inr (.inr (.inr rfl))
    · simp only [fIdle]
      rw [h.busy hj]
      exact .inl rfl
  · unfold dWait
    simp only
    rw [if_neg hj, if_pos h0, if_pos j0, hl]
  · unfold dWait
    simp only
    rw [if_neg hj, if_neg h0, hl]
theorem WaitOk.tick (h : WaitOk k m) (hj : m.job ≠ 0) (t : Int) :
    ((fTick m 1).2 = 0 → WaitOk k (fTick m 1).1 ∧ dWait ⟨m, t⟩ = dWait ⟨(fTick m 1).1, t + 1⟩ ∧ (fTick m 1).1.left = m.left - 1) ∧ ((fTick m 1).2 ≠ 0 → dWait ⟨m, t⟩ = (⟨(fTick m 1).1, t + 1⟩, (fTick m 1).2)) := by
  have hb := h.ok.busy hj
  by_cases hl : 1 < m.left
  · obtain ⟨e, o, d⟩ := h.step hj hl t
    rw [e]
    exact ⟨fun _ => ⟨o, d, rfl⟩, fun h0 => absurd rfl h0⟩
  · obtain ⟨e, j, d0, d1⟩ := h.last hj (by omega) t
    rw [e]
    refine ⟨fun h0 => ⟨(d0 h0).1, (d0 h0).2, ?_⟩, d1⟩
    have : (fDone m).1.left = 0 := by unfold fDone; split <;> rfl
    omega
theorem wait_still (hj : m.job = 0) (t : Int) : dWait ⟨m, t⟩ = (⟨(dCheck m).1, t⟩, (dCheck m).2) := by
  unfold dWait
  simp only
  rw [if_pos hj]
end
end Go.Proofs.YtpkkejdjhnmjiaaGreat
namespace Go.Proofs.YtpkkejdjhnmjiaaGreat
open Bm
structure DrvOk (k : Nat) (d : DrvM) : Prop where
  ok : FlashOk k d.f
  calm : Calm d.f
section
variable {k : Nat} {m : FlashM}
def putM (m : FlashM) (a : Int) (v : BitVec 32) : FlashM := if lk m.locks (a.toNat / 64) = true then lockedM m 18#32 else progM m a.toNat v 3
theorem locked_wait (c : Calm m) (e : BitVec 32) (he : e = 18#32 ∨ e = 34#32) (t : Int) : dWait ⟨lockedM m e, t⟩ = (⟨{ m with mode := 1 }, t⟩, 6) := by
  rw [wait_still (show (lockedM m e).job = 0 from c.job)]
  unfold dCheck
  have h0 : ¬ e = 0#32 := by rcases he with h | h <;> rw [h] <;> decide
  rw [if_neg (show ¬ (lockedM m e).errors = 0#32 from h0)]
  have h1 : dCode (lockedM m e).errors = 6 := by
    show dCode e = 6
    rcases he with h | h <;> rw [h] <;> decide
  rw [h1]
  have h2 := c.errors
  simp only [lockedM]
  rw [← h2]
theorem put_waits (h : FlashOk k m) (c : Calm m) (t a : Int) (v : BitVec 32) (hr : fRefuse m a = 0) : dWait ⟨putM m a v, t⟩ = dPut ⟨m, t⟩ a v := by
  obtain ⟨_, h0, h1⟩ := fRefuse_zero hr
  have ea : ((a.toNat : Nat) : Int) = a := by omega
  unfold putM dPut
  rw [if_pos hr]
  simp only
  split
  · exact locked_wait c 18#32 (.inl rfl) t
  · have := put_wait h c t a.toNat v (by rw [ea]; exact hr)
    rw [ea] at this
    exact this
theorem put_ok (h : FlashOk k m) (c : Calm m) (a : Int) (v : BitVec 32) (hr : fRefuse m a = 0) : WaitOk k (putM m a v) := by
  obtain ⟨hu, h0, h1⟩ := fRefuse_zero hr
  unfold putM
  split
  · exact ⟨lockedM_ok h c _ (by decide), c.wait, hu, fun _ => .inr (.inl rfl), fun e => absurd c.job e⟩
  · exact ⟨progM_ok h c _ (by omega) v 3 (by omega) (by omega), c.wait, hu, fun e => absurd e (by simp [progM]), fun _ => c.errors⟩
theorem put_left (h : FlashOk k m) (c : Calm m) (a : Int) (v : BitVec 32) : (putM m a v).left ≤ 20 := by
  unfold putM
  split
  · show m.left ≤ 20
    rw [(h.idle c.job).2.2]; omega
  · show (3 : Int) ≤ 20
    omega
theorem put_calm {d : DrvM} (h : DrvOk k d) (a : Int) (v : BitVec 32) : DrvOk k (dPut d a v).1 := by
  unfold dPut
  split
  · split
    · exact ⟨h.ok.calmMode h.calm 1 (by simp), h.calm.modeTo 1⟩
    · exact ⟨(h.ok.calmMode h.calm 1 (by simp)).chipTo _ (h.ok.chip.program a v), h.calm.chipTo 1 _⟩
  · exact h
theorem put_ticks (d : DrvM) (a : Int) (v : BitVec 32) : d.t ≤ (dPut d a v).1.t ∧ (dPut d a v).1.t ≤ d.t + 3 := by
  unfold dPut
  repeat' split
  all_goals (constructor <;> simp <;> omega)
theorem program_calm (l : List (BitVec 32)) : ∀ {d : DrvM} (a : Int), DrvOk k d → DrvOk k (dProgram d a l).1 := by
  induction l with
  | nil => intro d a h; exact h
  | cons v l ih =>
    intro d a h
    rw [dProgram]
    split
    · exact ih _ (put_calm h a v)
    · exact put_calm h a v
theorem program_ticks (l : List (BitVec 32)) : ∀ (d : DrvM) (a : Int), d.t ≤ (dProgram d a l).1.t ∧ (dProgram d a l).1.t ≤ d.t + 3 * l.length := by
  induction l with
  | nil => intro d a; simp [dProgram]
  | cons v l ih =>
    intro d a
    rw [dProgram]
    have h1 := put_ticks d a v
    have h2 := ih (dPut d a v).1 (a + 1)
    simp only [List.length_cons]
    split <;> constructor <;> omega
def erM0 (m : FlashM) (b : Int) : FlashM := if lk m.locks b.toNat = true then lockedM m 34#32 else erasM m b.toNat 20
theorem block_of (b : Int) : (b * 64).toNat / 64 = b.toNat := by omega
theorem block_refuse (h : FlashOk k m) {b : Int} (hr : fRefuse m (b * 64) = 0) : mRefuse m.chip b m.chip.wear.length = 0 ∧ b.toNat < m.chip.wear.length ∧ 0 ≤ b := by
  obtain ⟨hu, h0, h1⟩ := fRefuse_zero hr
  have a := h.chip.words
  have c := h.chip.wears
  refine ⟨?_, by omega, by omega⟩
  unfold mRefuse
  rw [if_neg (by rw [hu]; decide), if_neg (by omega)]
theorem erase_waits (h : FlashOk k m) (c : Calm m) (t b : Int) (hr : fRefuse m (b * 64) = 0) : dWait ⟨erM0 m b, t⟩ = dErase ⟨m, t⟩ b := by
  obtain ⟨h1, h2, h3⟩ := block_refuse h hr
  have eb : ((b.toNat : Nat) : Int) = b := by omega
  unfold erM0 dErase
  rw [if_pos hr]
  simp only
  split
  · exact locked_wait c 34#32 (.inr rfl) t
  · have := eras_wait h c t b.toNat (by rw [eb]; exact h1)
    rw [eb] at this
    exact this
theorem erase_ok (h : FlashOk k m) (c : Calm m) (b : Int) (hr : fRefuse m (b * 64) = 0) : WaitOk k (erM0 m b) := by
  obtain ⟨hu, _, _⟩ := fRefuse_zero hr
  obtain ⟨_, h2, _⟩ := block_refuse h hr
  unfold erM0
  split
  · exact ⟨lockedM_ok h c _ (by decide), c.wait, hu, fun _ => .inr (.inr (.inl rfl)), fun e => absurd c.job e⟩
  · exact ⟨erasM_ok h c _ h2 20 (by omega) (by omega), c.wait, hu, fun e => absurd e (by simp [erasM]), fun _ => c.errors⟩
theorem erase_left (h : FlashOk k m) (c : Calm m) (b : Int) : (erM0 m b).left ≤ 20 := by
  unfold erM0
  split
  · show m.left ≤ 20
    rw [(h.idle c.job).2.2]; omega
  · show (20 : Int) ≤ 20
    omega
theorem erase_calm {d : DrvM} (h : DrvOk k d) (b : Int) : DrvOk k (dErase d b).1 := by
  unfold dErase
  split
  · split
    · exact ⟨h.ok.calmMode h.calm 1 (by simp), h.calm.modeTo 1⟩
    · exact ⟨(h.ok.calmMode h.calm 1 (by simp)).chipTo _ (h.ok.chip.erase b), h.calm.chipTo 1 _⟩
  · exact h
theorem erase_ticks (d : DrvM) (b : Int) : d.t ≤ (dErase d b).1.t ∧ (dErase d b).1.t ≤ d.t + 20 := by
  unfold dErase
  repeat' split
  all_goals (constructor <;> simp <;> omega)
theorem read_word (hu : m.chip.up = true) (a : Int) (h0 : 0 ≤ a) : fRead { m with mode := 0 } a = if a < m.chip.ws.length then (wd m.chip.ws a.toNat, 0) else (0#32, 3) := by
  have e : fRefuse { m with mode := 0 } a = if a < m.chip.ws.length then 0 else 3 := by
    show mRefuse m.chip a m.chip.ws.length = _
    unfold mRefuse
    rw [if_neg (by rw [hu]; decide)]
    by_cases h1 : a < m.chip.ws.length
    · rw [if_neg (by omega), if_pos h1]
    · rw [if_pos (by omega), if_neg h1]
  unfold fRead
  rw [e]
  by_cases h1 : a < m.chip.ws.length
  · rw [if_pos h1, if_pos rfl, if_pos h1]
    rfl
  · rw [if_neg h1, if_neg (by decide), if_neg h1]
end
end Go.Proofs.YtpkkejdjhnmjiaaGreat
namespace Go.Proofs.YtpkkejdjhnmjiaaGreat
open Go.RowKit Bm
def drvCells (f k : Nat) (t : Int) : List Value := [.pointer (some ⟨f, 0, none⟩), .int .i64 k, .int .i64 t]
structure Dv (B p f q k : Nat) (K : Nat → Prop) (d : DrvM) (w : World) : Prop where
  st : StK B p f (fun i => K i ∨ i = q) d.f w
  own : At w q 100 (drvCells f k d.t)
  qB : May B K q
def DvOut (B p f q k : Nat) (K : Nat → Prop) (d : DrvM) (v : Value) (w : World) (e : Ending) (w' : World) : Prop := e = .returned v ∧ Dv B p f q k K d w' ∧ Turned (May B K) w w'
def KA (K : Nat → Prop) (A : Option Addr) (i : Nat) : Prop := K i ∨ ∃ a, A = some a ∧ i = a.block
def DvRead (B p f q k : Nat) (K : Nat → Prop) (x : DrvM × List (BitVec 32) × Int) (w : World) (e : Ending) (w' : World) : Prop :=
  ∃ A cap, e = .returned (.tuple #[.slice A x.2.1.length cap, .int .i64 x.2.2]) ∧ ReadsU w' A x.2.1.length cap x.2.1 ∧ (A = none → cap = 0) ∧ Dv B p f q k (KA K A) x.1 w' ∧ Turned (May B K) w w'
section
variable {B p f q k : Nat} {K : Nat → Prop} {d : DrvM} {w w' : World}
theorem Dv.below (s : Dv B p f q k K d w) (hB : Below w.heap.size w w') : Dv B p f q k K d w' :=
  ⟨s.st.below hB, s.own.kept (Turned.of_below hB (Nat.le_refl _) NoBlock) (fun h => h), s.qB⟩
theorem Dv.size (s : Dv B p f q k K d w) : B ≤ w.heap.size := s.st.size
theorem Dv.more (s : Dv B p f q k K d w) (hB : Below w.heap.size w w') (g : Nat) (h1 : w.heap.size ≤ g) (h2 : g < w'.heap.size) : Dv B p f q k (fun i => K i ∨ i = g) d w' :=
  ⟨(s.st.more hB g h1 h2).less (fun i h => by
    rcases h with (h | h) | h
    · exact .inl (.inl h)
    · exact .inr h
    · exact .inl (.inr h)), s.own.kept (Turned.of_below hB (Nat.le_refl _) NoBlock) (fun h => h), ⟨s.qB.1, fun e => by
    rcases e with e | e
    · exact s.qB.2 e
    · have := s.own.lt
      omega⟩⟩
theorem Dv.less (s : Dv B p f q k K d w) {K' : Nat → Prop} (h : ∀ i, K' i → K i) : Dv B p f q k K' d w :=
  ⟨s.st.less (fun i e => by
    rcases e with e | e
    · exact .inl (h i e)
    · exact .inr e), s.own, ⟨s.qB.1, fun e => s.qB.2 (h q e)⟩⟩
theorem Dv.renew {K' : Nat → Prop} (s : Dv B p f q k K d w) (hb : Below w.heap.size w w') (h : ∀ i, K' i → (K i ∨ w.heap.size ≤ i) ∧ i < w'.heap.size) : Dv B p f q k K' d w' :=
  ⟨s.st.renew hb (fun i e => by
    rcases e with e | e
    · obtain ⟨h1, h2⟩ := h i e
      exact ⟨h1.imp (fun h => .inl h) (fun h => h), h2⟩
    · rw [e]
      exact ⟨.inl (.inr rfl), Nat.lt_of_lt_of_le s.own.lt hb.size⟩), s.own.kept (Turned.of_below hb (Nat.le_refl _) NoBlock) (fun h => h), ⟨s.qB.1, fun e => by
    rcases (h q e).1 with h1 | h1
    · exact s.qB.2 h1
    · have := s.own.lt
      omega⟩⟩
theorem may_less {B : Nat} {K K' : Nat → Prop} {w w' : World} (t : Turned (May B K) w w') (h : ∀ i, K' i → K i) : Turned (May B K') w w' := t.mono fun i _ e => ⟨e.1, fun e2 => e.2 (h i e2)⟩
theorem ReadsU.act {A : Option Addr} {n cap : Nat} {xs : List (BitVec 32)} {S : Nat → Prop} (h : ReadsU w A n cap xs) (t : Turned S w w') (hA : ∀ a, A = some a → ¬ S a.block) : ReadsU w' A n cap xs :=
  ⟨h.len, h.le, h.max, fun hn => by
    obtain ⟨ad, e, hlt, hc⟩ := h.cell hn
    exact ⟨ad, e, Nat.lt_of_lt_of_le hlt t.size, fun j u hu => (t.cell (p := ad.add j) (by unfold Addr.add; split <;> exact hlt) (by unfold Addr.add; split <;> exact hA ad e)).trans (hc j u hu)⟩⟩
end
def zeroDrv : List Value := [.pointer none, .int .i64 0, .int .i64 0]
def NoDrv (w : World) (v : Value) : Prop := v = .pointer none ∨ ∃ p, v = .pointer (some ⟨p, 0, none⟩) ∧ At w p 100 zeroDrv
theorem NoDrv.below {w w' : World} {v : Value} (h : NoDrv w v) (hb : Below w.heap.size w w') : NoDrv w' v := by
  rcases h with h | ⟨p, e, h⟩
  · exact .inl h
  · exact .inr ⟨p, e, h.kept (Turned.of_below hb (Nat.le_refl _) NoBlock) (fun h => h)⟩
end Go.Proofs.YtpkkejdjhnmjiaaGreat
