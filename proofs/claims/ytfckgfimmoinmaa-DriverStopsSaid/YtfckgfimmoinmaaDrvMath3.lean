/- A driver's calls, out of what is written, and what is waited for. -/
import Derived.Test.YtfckgfimmoinmaaDrvMath2
namespace Go.Proofs.Ytfckgfimmoinmaa
open Bm

/-- A driver between calls. -/
structure DrvOk (k : Nat) (d : DrvM) : Prop where
  ok : FlashOk k d.f
  calm : Calm d.f

/-- The words, one behind the other, at a place. -/
def fWrites : FlashM → Int → List (BitVec 32) → FlashM × Int
  | m, _, [] => (m, 0)
  | m, a, v :: l => if (fWrite m a v).2 = 0 then fWrites (fWrite m a v).1 a l else fWrite m a v
theorem writes_one (m : FlashM) (a : Int) (v : BitVec 32) : fWrites m a [v] = fWrite m a v := by
  unfold fWrites
  split
  · rename_i h
    unfold fWrites
    rw [Prod.ext_iff]
    exact ⟨rfl, h.symm⟩
  · rfl
theorem writes_two (m : FlashM) (a : Int) (v x : BitVec 32) : fWrites m a [v, x] = if (fWrite m a v).2 = 0 then fWrite (fWrite m a v).1 a x else fWrite m a v := by
  rw [fWrites]
  split
  · rw [writes_one]
  · rfl

section
variable {k : Nat} {m : FlashM}
/-! ### Program -/
def putM (m : FlashM) (a : Int) (v : BitVec 32) : FlashM := if lk m.locks (a.toNat / 64) = true then lockedM m 18#32 else progM m a.toNat v 3
theorem put_writes (c : Calm m) (a : Int) (v : BitVec 32) : fWrites m a [64#32, v] = if fRefuse m a = 0 then (putM m a v, 0) else (m, fRefuse m a) := by
  rw [writes_two]
  by_cases hr : fRefuse m a = 0
  · rw [(calm_first c a hr).1, if_pos rfl, if_pos hr]
    exact prog_second c a v hr
  · rw [calm_far a _ hr, if_neg hr, if_neg hr]
theorem locked_wait (c : Calm m) (e : BitVec 32) (he : e = 18#32 ∨ e = 34#32) (t : Int) : dWait ⟨lockedM m e, t⟩ = (⟨{ m with mode := 1 }, t⟩, 6) := by
  rw [wait_still (show (lockedM m e).job = 0 from c.job)]
  unfold dCheck
  have h0 : ¬ e = 0#32 := by rcases he with h | h <;> rw [h] <;> decide
  rw [if_neg (show ¬ (lockedM m e).errors = 0#32 from h0)]
  have h1 : dCode (lockedM m e).errors = 6 := by
    show dCode e = 6
    rcases he with h | h <;> rw [h] <;> decide
  rw [h1]
  have h2 := c.errors
  simp only [lockedM]
  rw [← h2]
theorem put_waits (h : FlashOk k m) (c : Calm m) (t a : Int) (v : BitVec 32) (hr : fRefuse m a = 0) : dWait ⟨putM m a v, t⟩ = dPut ⟨m, t⟩ a v := by
  obtain ⟨_, h0, h1⟩ := fRefuse_zero hr
  have ea : ((a.toNat : Nat) : Int) = a := by omega
  unfold putM dPut
  rw [if_pos hr]
  simp only
  split
  · exact locked_wait c 18#32 (.inl rfl) t
  · have := put_wait h c t a.toNat v (by rw [ea]; exact hr)
    rw [ea] at this
    exact this
theorem put_ok (h : FlashOk k m) (c : Calm m) (a : Int) (v : BitVec 32) (hr : fRefuse m a = 0) : WaitOk k (putM m a v) := by
  obtain ⟨hu, h0, h1⟩ := fRefuse_zero hr
  unfold putM
  split
  · exact ⟨lockedM_ok h c _ (by decide), c.wait, hu, fun _ => .inr (.inl rfl), fun e => absurd c.job e⟩
  · exact ⟨progM_ok h c _ (by omega) v 3 (by omega) (by omega), c.wait, hu, fun e => absurd e (by simp [progM]), fun _ => c.errors⟩
theorem put_left (h : FlashOk k m) (c : Calm m) (a : Int) (v : BitVec 32) : (putM m a v).left ≤ 20 := by
  unfold putM
  split
  · show m.left ≤ 20
    rw [(h.idle c.job).2.2]; omega
  · show (3 : Int) ≤ 20
    omega
theorem put_calm {d : DrvM} (h : DrvOk k d) (a : Int) (v : BitVec 32) : DrvOk k (dPut d a v).1 := by
  unfold dPut
  split
  · split
    · exact ⟨h.ok.calmMode h.calm 1 (by simp), h.calm.modeTo 1⟩
    · exact ⟨(h.ok.calmMode h.calm 1 (by simp)).chipTo _ (h.ok.chip.program a v), h.calm.chipTo 1 _⟩
  · exact h
theorem put_ticks (d : DrvM) (a : Int) (v : BitVec 32) : d.t ≤ (dPut d a v).1.t ∧ (dPut d a v).1.t ≤ d.t + 3 := by
  unfold dPut
  repeat' split
  all_goals (constructor <;> simp <;> omega)
theorem program_calm (l : List (BitVec 32)) : ∀ {d : DrvM} (a : Int), DrvOk k d → DrvOk k (dProgram d a l).1 := by
  induction l with
  | nil => intro d a h; exact h
  | cons v l ih =>
    intro d a h
    rw [dProgram]
    split
    · exact ih _ (put_calm h a v)
    · exact put_calm h a v
theorem program_ticks (l : List (BitVec 32)) : ∀ (d : DrvM) (a : Int), d.t ≤ (dProgram d a l).1.t ∧ (dProgram d a l).1.t ≤ d.t + 3 * l.length := by
  induction l with
  | nil => intro d a; simp [dProgram]
  | cons v l ih =>
    intro d a
    rw [dProgram]
    have h1 := put_ticks d a v
    have h2 := ih (dPut d a v).1 (a + 1)
    simp only [List.length_cons]
    split <;> constructor <;> omega

/-! ### Erase -/
def erM0 (m : FlashM) (b : Int) : FlashM := if lk m.locks b.toNat = true then lockedM m 34#32 else erasM m b.toNat 20
theorem block_of (b : Int) : (b * 64).toNat / 64 = b.toNat := by omega
theorem erase_writes (c : Calm m) (b : Int) : fWrites m (b * 64) [32#32, 208#32] = if fRefuse m (b * 64) = 0 then (erM0 m b, 0) else (m, fRefuse m (b * 64)) := by
  rw [writes_two]
  by_cases hr : fRefuse m (b * 64) = 0
  · rw [(calm_first c _ hr).2.1, if_pos rfl, if_pos hr]
    have := erase_second c (b * 64) hr
    rw [block_of] at this
    exact this
  · rw [calm_far _ _ hr, if_neg hr, if_neg hr]
theorem block_refuse (h : FlashOk k m) {b : Int} (hr : fRefuse m (b * 64) = 0) : mRefuse m.chip b m.chip.wear.length = 0 ∧ b.toNat < m.chip.wear.length ∧ 0 ≤ b := by
  obtain ⟨hu, h0, h1⟩ := fRefuse_zero hr
  have a := h.chip.words
  have c := h.chip.wears
  refine ⟨?_, by omega, by omega⟩
  unfold mRefuse
  rw [if_neg (by rw [hu]; decide), if_neg (by omega)]
theorem erase_waits (h : FlashOk k m) (c : Calm m) (t b : Int) (hr : fRefuse m (b * 64) = 0) : dWait ⟨erM0 m b, t⟩ = dErase ⟨m, t⟩ b := by
  obtain ⟨h1, h2, h3⟩ := block_refuse h hr
  have eb : ((b.toNat : Nat) : Int) = b := by omega
  unfold erM0 dErase
  rw [if_pos hr]
  simp only
  split
  · exact locked_wait c 34#32 (.inr rfl) t
  · have := eras_wait h c t b.toNat (by rw [eb]; exact h1)
    rw [eb] at this
    exact this
theorem erase_ok (h : FlashOk k m) (c : Calm m) (b : Int) (hr : fRefuse m (b * 64) = 0) : WaitOk k (erM0 m b) := by
  obtain ⟨hu, _, _⟩ := fRefuse_zero hr
  obtain ⟨_, h2, _⟩ := block_refuse h hr
  unfold erM0
  split
  · exact ⟨lockedM_ok h c _ (by decide), c.wait, hu, fun _ => .inr (.inr (.inl rfl)), fun e => absurd c.job e⟩
  · exact ⟨erasM_ok h c _ h2 20 (by omega) (by omega), c.wait, hu, fun e => absurd e (by simp [erasM]), fun _ => c.errors⟩
theorem erase_left (h : FlashOk k m) (c : Calm m) (b : Int) : (erM0 m b).left ≤ 20 := by
  unfold erM0
  split
  · show m.left ≤ 20
    rw [(h.idle c.job).2.2]; omega
  · show (20 : Int) ≤ 20
    omega
theorem erase_calm {d : DrvM} (h : DrvOk k d) (b : Int) : DrvOk k (dErase d b).1 := by
  unfold dErase
  split
  · split
    · exact ⟨h.ok.calmMode h.calm 1 (by simp), h.calm.modeTo 1⟩
    · exact ⟨(h.ok.calmMode h.calm 1 (by simp)).chipTo _ (h.ok.chip.erase b), h.calm.chipTo 1 _⟩
  · exact h
theorem erase_ticks (d : DrvM) (b : Int) : d.t ≤ (dErase d b).1.t ∧ (dErase d b).1.t ≤ d.t + 20 := by
  unfold dErase
  repeat' split
  all_goals (constructor <;> simp <;> omega)

/-! ### Lock -/
theorem lock_writes (c : Calm m) (b : Int) (on : Bool) : fWrites m (b * 64) [96#32, if on then 1#32 else 208#32] = if fRefuse m (b * 64) = 0 then ({ m with mode := 1, locks := m.locks.set b.toNat on }, 0) else (m, fRefuse m (b * 64)) := by
  rw [writes_two]
  by_cases hr : fRefuse m (b * 64) = 0
  · rw [(calm_first c _ hr).2.2.1, if_pos rfl, if_pos hr]
    have := lock_second c (b * 64) on hr
    rw [block_of] at this
    exact this
  · rw [calm_far _ _ hr, if_neg hr, if_neg hr]
theorem lock_calm {d : DrvM} (h : DrvOk k d) (b : Int) (on : Bool) : DrvOk k (dLock d b on).1 := by
  unfold dLock
  split
  · exact ⟨locksM_ok h.ok h.calm _ (by simpa using h.ok.locks), ⟨h.calm.job, h.calm.wait, h.calm.errors⟩⟩
  · exact h
theorem lock_ticks (d : DrvM) (b : Int) (on : Bool) : (dLock d b on).1.t = d.t := by unfold dLock; split <;> rfl

/-! ### Read -/
theorem read_writes (c : Calm m) (a : Int) : fWrites m a [255#32] = if fRefuse m a = 0 then ({ m with mode := 0 }, 0) else (m, fRefuse m a) := by
  rw [writes_one]
  by_cases hr : fRefuse m a = 0
  · rw [(calm_first c _ hr).2.2.2, if_pos hr]
  · rw [calm_far _ _ hr, if_neg hr]
theorem read_word (hu : m.chip.up = true) (a : Int) (h0 : 0 ≤ a) : fRead { m with mode := 0 } a = if a < m.chip.ws.length then (wd m.chip.ws a.toNat, 0) else (0#32, 3) := by
  have e : fRefuse { m with mode := 0 } a = if a < m.chip.ws.length then 0 else 3 := by
    show mRefuse m.chip a m.chip.ws.length = _
    unfold mRefuse
    rw [if_neg (by rw [hu]; decide)]
    by_cases h1 : a < m.chip.ws.length
    · rw [if_neg (by omega), if_pos h1]
    · rw [if_pos (by omega), if_neg h1]
  unfold fRead
  rw [e]
  by_cases h1 : a < m.chip.ws.length
  · rw [if_pos h1, if_pos rfl, if_pos h1]
    rfl
  · rw [if_neg h1, if_neg (by decide), if_neg h1]
theorem read_calm {d : DrvM} (h : DrvOk k d) (a many : Int) : DrvOk k (dRead d a many).1 := by
  unfold dRead
  repeat' split
  all_goals first
    | exact h
    | exact ⟨h.ok.calmMode h.calm 0 (by simp), h.calm.modeTo 0⟩
theorem read_ticks (d : DrvM) (a many : Int) : (dRead d a many).1.t = d.t := by
  unfold dRead
  repeat' split
  all_goals rfl
end
end Go.Proofs.Ytfckgfimmoinmaa
