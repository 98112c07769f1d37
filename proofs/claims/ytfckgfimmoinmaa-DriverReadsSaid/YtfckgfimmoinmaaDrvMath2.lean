/- A driver waits: tick by tick. -/
import Derived.Test.YtfckgfimmoinmaaDrvMath
namespace Go.Proofs.Ytfckgfimmoinmaa
open Bm

/-- A flash that is waited for. -/
structure WaitOk (k : Nat) (m : FlashM) : Prop where
  ok : FlashOk k m
  wait : m.wait = 0
  up : m.chip.up = true
  idle : m.job = 0 → Bits m.errors
  busy : m.job ≠ 0 → m.errors = 0#32

section
variable {k : Nat} {m : FlashM}
theorem WaitOk.len (h : WaitOk k m) : 0 < m.chip.ws.length := by
  have a := h.ok.chip.words
  have b := h.ok.chip.k1
  omega
theorem done_left (m : FlashM) (n : Int) : fDone { m with left := n } = fDone m := rfl
theorem WaitOk.step (h : WaitOk k m) (hj : m.job ≠ 0) (hl : 1 < m.left) (t : Int) :
    fTick m 1 = ({ m with left := m.left - 1 }, 0) ∧ WaitOk k { m with left := m.left - 1 } ∧ dWait ⟨m, t⟩ = dWait ⟨{ m with left := m.left - 1 }, t + 1⟩ := by
  have hb := h.ok.busy hj
  refine ⟨fTick_wait h.up h.len 1 (by omega) hj (by omega), ⟨⟨h.ok.chip, h.ok.mode, h.ok.wait, h.ok.errors, h.ok.locks, h.ok.job, fun e => absurd e hj, fun _ => ⟨hb.1, hb.2.1, by show 0 < m.left - 1; omega, by show m.left - 1 ≤ 20; omega⟩, h.ok.prog, h.ok.erase⟩, h.wait, h.up, h.idle, h.busy⟩, ?_⟩
  unfold dWait
  simp only
  rw [if_neg hj, if_neg hj, show t + 1 + (m.left - 1) = t + m.left by omega]
  rfl
theorem mChange_up {c : ChipM} (h : c.up = true) (hl : c.left ≠ 1) : (mChange c).up = true := by
  unfold mChange
  split
  · exact h
  · first
      | (rw [if_neg hl]; exact h)
      | exact h
theorem mErr_left {c : ChipM} (h : mErr c ≠ 4) : c.left ≠ 1 := by
  intro e
  unfold mErr at h
  rw [if_pos e] at h
  exact h rfl
theorem prog_up {c : ChipM} {a : Int} {v : BitVec 32} (hu : c.up = true) (h : (mProgram c a v).2 = 0) : (mProgram c a v).1.up = true := by
  unfold mProgram at h ⊢
  split
  · rename_i hr
    rw [if_pos hr] at h
    exact mChange_up hu (mErr_left (by simp only at h; omega))
  · exact hu
theorem erase_up {c : ChipM} {b : Int} (hu : c.up = true) (h : (mErase c b).2 = 0 ∨ (mErase c b).2 = 5) : (mErase c b).1.up = true := by
  unfold mErase at h ⊢
  split
  · rename_i hr
    rw [if_pos hr] at h
    split
    · exact hu
    · rename_i he
      rw [if_neg he] at h
      exact mChange_up hu (mErr_left (by simp only at h; omega))
  · exact hu
theorem job_up (hu : m.chip.up = true) (h : (fJob m).2 = 0 ∨ (fJob m).2 = 5) : (fJob m).1.up = true := by
  unfold fJob at h ⊢
  split
  · rename_i hj
    rw [if_pos hj] at h
    rcases h with h | h
    · exact prog_up hu h
    · unfold mProgram at h ⊢
      split
      · rename_i hr
        rw [if_pos hr] at h
        exact mChange_up hu (mErr_left (by simp only at h; omega))
      · exact hu
  · rename_i hj
    rw [if_neg hj] at h
    exact erase_up hu h
theorem WaitOk.last (h : WaitOk k m) (hj : m.job ≠ 0) (hl : m.left = 1) (t : Int) :
    fTick m 1 = fDone m ∧ (fDone m).1.job = 0 ∧ ((fDone m).2 = 0 → WaitOk k (fDone m).1 ∧ dWait ⟨m, t⟩ = dWait ⟨(fDone m).1, t + 1⟩) ∧ ((fDone m).2 ≠ 0 → dWait ⟨m, t⟩ = (⟨(fDone m).1, t + 1⟩, (fDone m).2)) := by
  have j0 : (fDone m).1.job = 0 := by unfold fDone; split <;> rfl
  refine ⟨fTick_done h.up h.len 1 (by omega) hj (by omega), j0, fun h0 => ⟨⟨h.ok.done, ?_, ?_, ?_, fun e => absurd j0 e⟩, ?_⟩, fun h0 => ?_⟩
  · unfold fDone; split <;> exact h.wait
  · unfold fDone at h0 ⊢
    split
    · rename_i h5
      exact job_up h.up (.inr h5)
    · rename_i h5
      rw [if_neg h5] at h0
      exact job_up h.up (.inl h0)
  · intro _
    unfold fDone
    split
    · simp only [fWith, fIdle]
      rw [h.busy hj]
      exact .inr (.inr (.inr rfl))
    · simp only [fIdle]
      rw [h.busy hj]
      exact .inl rfl
  · unfold dWait
    simp only
    rw [if_neg hj, if_pos h0, if_pos j0, hl]
  · unfold dWait
    simp only
    rw [if_neg hj, if_neg h0, hl]
/-- One tick more, whatever it does. -/
theorem WaitOk.tick (h : WaitOk k m) (hj : m.job ≠ 0) (t : Int) :
    ((fTick m 1).2 = 0 → WaitOk k (fTick m 1).1 ∧ dWait ⟨m, t⟩ = dWait ⟨(fTick m 1).1, t + 1⟩ ∧ (fTick m 1).1.left = m.left - 1) ∧ ((fTick m 1).2 ≠ 0 → dWait ⟨m, t⟩ = (⟨(fTick m 1).1, t + 1⟩, (fTick m 1).2)) := by
  have hb := h.ok.busy hj
  by_cases hl : 1 < m.left
  · obtain ⟨e, o, d⟩ := h.step hj hl t
    rw [e]
    exact ⟨fun _ => ⟨o, d, rfl⟩, fun h0 => absurd rfl h0⟩
  · obtain ⟨e, j, d0, d1⟩ := h.last hj (by omega) t
    rw [e]
    refine ⟨fun h0 => ⟨(d0 h0).1, (d0 h0).2, ?_⟩, d1⟩
    have : (fDone m).1.left = 0 := by unfold fDone; split <;> rfl
    omega
theorem wait_still (hj : m.job = 0) (t : Int) : dWait ⟨m, t⟩ = (⟨(dCheck m).1, t⟩, (dCheck m).2) := by
  unfold dWait
  simp only
  rw [if_pos hj]
end
end Go.Proofs.Ytfckgfimmoinmaa
