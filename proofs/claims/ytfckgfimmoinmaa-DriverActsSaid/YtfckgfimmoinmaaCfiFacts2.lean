/- Plain facts of flashes for CfiLocks and CfiJobs. -/
import Derived.Test.YtfckgfimmoinmaaCfiFacts
import Derived.Test.YtfckgfimmoinmaaCfiB
namespace Go.Proofs.Ytfckgfimmoinmaa
open Bm

theorem fProgram_locked {m : FlashM} {i : Nat} (v : BitVec 32) (h : lk m.locks (i / 64) = true) : fProgram m i v = fWith m 18#32 := if_pos h
theorem fProgram_free {m : FlashM} {i : Nat} (v : BitVec 32) (h : lk m.locks (i / 64) = false) : fProgram m i v = { m with job := 64, at_ := i, v := v, left := 3 } := if_neg (by rw [h]; decide)
theorem oneM_up (n k : Nat) (v : BitVec 32) : (oneM n k v).up = true := rfl
theorem oneM_ok (n k : Nat) (v : BitVec 32) (hk : k < n * 64) (n1 : 1 ≤ n) (n2 : n ≤ 64) : ChipOk n (oneM n k v) := by
  have := (ChipOk.of (List.replicate (n * 64) ones) n 5 n1 n2 (by simp) (by omega) (by omega)).program k v
  have e := oneM_is n k v hk
  unfold mNew at e
  rw [e] at this
  exact this
theorem new2_ok : ChipOk 2 (mNew 2 5) := ChipOk.of _ 2 5 (by omega) (by omega) (by simp) (by omega) (by omega)
theorem new2_len : (mNew 2 5).ws.length = 128 := by simp [mNew, mOf]

theorem lockAt_ord (k : Nat) (hk : k < 128) : fWrite ordM k 96#32 = (waitM 96, 0) := by
  rw [ordM_idle.write k (by omega) (by rw [ordM_len]; omega) 96#32 96#32 (by decide)]; rfl
/-- Block b is locked; the chip is c. -/
def lockM (b : Nat) (c : ChipM) : FlashM := { fNew c with mode := 1, locks := noLocks.set b true }
def lockW (b : Nat) : FlashM := { lockM b (mNew 2 5) with wait := 64 }
def lockErr (b : Nat) : FlashM := { lockM b (mNew 2 5) with errors := 18#32 }
def lockJob (b o : Nat) (v : BitVec 32) : FlashM := { lockM b (mNew 2 5) with job := 64, at_ := o, v := v, left := 3 }
def lockId (b : Nat) (c : ChipM) : FlashM := { lockM b c with mode := 2 }
def idM (c : ChipM) : FlashM := { fNew c with mode := 2 }
theorem lockM_idle (b : Nat) (c : ChipM) (h : c.up = true) : Idle (lockM b c) := ⟨h, rfl, rfl⟩
theorem lock_locks (k : Nat) (hk : k < 128) : fWrite (waitM 96) k 1#32 = (lockM (k / 64) (mNew 2 5), 0) := by
  rw [fWrite_at (m := waitM 96) rfl k (by omega) (by show (k : Int) < ordM.chip.ws.length; rw [ordM_len]; omega)]
  unfold fWriteDo fWaited fLock
  rw [if_neg (by decide), if_pos (by decide), if_neg (by decide), if_neg (by decide), if_pos (by decide)]
  rfl
theorem lock_program (b o : Nat) (ho : o < 128) : fWrite (lockM b (mNew 2 5)) o 64#32 = (lockW b, 0) := by
  rw [(lockM_idle b _ rfl).write o (by omega) (by show (o : Int) < (mNew 2 5).ws.length; rw [new2_len]; omega) 64#32 64#32 (by decide)]; rfl
theorem lock_err (b o : Nat) (v : BitVec 32) (ho : o < 128) (hb : o / 64 = b) : fWrite (lockW b) o v = (lockErr b, 0) := by
  rw [fWrite_at (m := lockW b) rfl o (by omega) (by show (o : Int) < (mNew 2 5).ws.length; rw [new2_len]; omega)]
  have hl : lk (noLocks.set b true) (o / 64) = true := by rw [hb]; exact lk_set_self _ _ _ (by simp [noLocks]; omega)
  rw [Int.toNat_natCast, fWriteDo_program (m := lockW b) o v rfl rfl]
  rw [fProgram_locked (m := { lockW b with wait := 0, mode := 1 }) v hl]
  simp [fWith, lockW, lockErr, lockM, fNew]
theorem lock_job (b o : Nat) (v : BitVec 32) (ho : o < 128) (hb : b ≠ o / 64) : fWrite (lockW b) o v = (lockJob b o v, 0) := by
  rw [fWrite_at (m := lockW b) rfl o (by omega) (by show (o : Int) < (mNew 2 5).ws.length; rw [new2_len]; omega)]
  have hl : lk (noLocks.set b true) (o / 64) = false := by rw [lk_set_other _ _ _ _ hb]; exact lk_none _
  rw [Int.toNat_natCast, fWriteDo_program (m := lockW b) o v rfl rfl]
  rw [fProgram_free (m := { lockW b with wait := 0, mode := 1 }) v hl]
  rfl
theorem lockErr_status (b : Nat) : fStatus (lockErr b) = 146#32 := by simp [fStatus, lockErr, lockM, fNew]
theorem lockJob_status (b o : Nat) (v : BitVec 32) : fStatus (lockJob b o v) = 0#32 := by simp [fStatus, lockJob, lockM, fNew]
theorem fTick_on {m : FlashM} (h : m.chip.up = true) (hl : 0 < m.chip.ws.length) (n : Int) (hn : 0 ≤ n) : fTick m n = if m.job = 0 then (m, 0) else if n < m.left then ({ m with left := m.left - n }, 0) else fDone m := by
  unfold fTick
  rw [if_neg (by rw [fRefuse_on h 0 (by omega) (by omega)]; decide), if_neg (by omega)]
theorem fTick_idle {m : FlashM} (h : m.chip.up = true) (hl : 0 < m.chip.ws.length) (n : Int) (hn : 0 ≤ n) (j : m.job = 0) : fTick m n = (m, 0) := by rw [fTick_on h hl n hn, if_pos j]
theorem fTick_wait {m : FlashM} (h : m.chip.up = true) (hl : 0 < m.chip.ws.length) (n : Int) (hn : 0 ≤ n) (j : m.job ≠ 0) (k : n < m.left) : fTick m n = ({ m with left := m.left - n }, 0) := by rw [fTick_on h hl n hn, if_neg j, if_pos k]
theorem fTick_done {m : FlashM} (h : m.chip.up = true) (hl : 0 < m.chip.ws.length) (n : Int) (hn : 0 ≤ n) (j : m.job ≠ 0) (k : m.left ≤ n) : fTick m n = fDone m := by rw [fTick_on h hl n hn, if_neg j, if_neg (by omega)]
theorem fDone_ok {m : FlashM} {c : ChipM} (h : fJob m = (c, 0)) : fDone m = (fIdle m c, 0) := by
  unfold fDone
  rw [h]
  exact if_neg (show ¬ (0 : Int) = 5 by decide)
theorem fJob_prog {m : FlashM} (h : m.job = 64) : fJob m = mProgram m.chip m.at_ m.v := if_pos h
theorem fJob_erase {m : FlashM} (h : m.job = 32) : fJob m = mErase m.chip m.at_ := if_neg (by rw [h]; decide)
theorem lockErr_tick (b : Nat) : fTick (lockErr b) 3 = (lockErr b, 0) := by
  exact fTick_idle (m := lockErr b) rfl (by show 0 < (mNew 2 5).ws.length; rw [new2_len]; omega) 3 (by omega) rfl
theorem lockJob_tick (b o : Nat) (v : BitVec 32) (ho : o < 128) : fTick (lockJob b o v) 3 = (lockM b (oneM 2 o v), 0) := by
  rw [fTick_done (m := lockJob b o v) rfl (by show 0 < (mNew 2 5).ws.length; rw [new2_len]; omega) 3 (by omega) (by show (64 : Int) ≠ 0; decide) (by show (3 : Int) ≤ 3; omega)]
  rw [fDone_ok ((fJob_prog (m := lockJob b o v) rfl).trans (oneM_is 2 o v (by omega)))]
  rfl
theorem lockErr_clear (b : Nat) : fWrite (lockErr b) 0 80#32 = (lockM b (mNew 2 5), 0) := by
  rw [(⟨rfl, rfl, rfl⟩ : Idle (lockErr b)).write 0 (by omega) (by show (0 : Int) < (mNew 2 5).ws.length; rw [new2_len]; omega) 80#32 80#32 (by decide)]; rfl
section
variable (b : Nat) (c : ChipM) (hu : c.up = true) (hl : c.ws.length = 128)
include hu hl
theorem lockM_clear : fWrite (lockM b c) 0 80#32 = (lockM b c, 0) := by
  rw [(lockM_idle b c hu).write 0 (by omega) (by show (0 : Int) < c.ws.length; rw [hl]; omega) 80#32 80#32 (by decide)]; rfl
theorem lockM_id : fWrite (lockM b c) 0 144#32 = (lockId b c, 0) := by
  rw [(lockM_idle b c hu).write 0 (by omega) (by show (0 : Int) < c.ws.length; rw [hl]; omega) 144#32 144#32 (by decide)]; rfl
theorem lockId_read (hb : b < 2) : fRead (lockId b c) ((b * 64 + 2 : Nat) : Int) = (1#32, 0) := by
  rw [fRead_at hu _ (by omega) (by show _ < (c.ws.length : Int); rw [hl]; omega), Int.toNat_natCast]
  have e : fReadDo (lockId b c) (b * 64 + 2) = fId (lockId b c) (b * 64 + 2) := rfl
  rw [e]
  unfold fId
  have hk : lk (lockId b c).locks ((b * 64 + 2) / 64) = true := by
    rw [show (b * 64 + 2) / 64 = b by omega]
    exact lk_set_self _ _ _ (by simp [noLocks]; omega)
  rw [hk, if_neg (by omega), if_neg (by omega), if_pos (by omega), if_pos rfl]
theorem new_id : fWrite (fNew c) 0 144#32 = (idM c, 0) := by
  rw [(⟨hu, rfl, rfl⟩ : Idle (fNew c)).write 0 (by omega) (by show (0 : Int) < c.ws.length; rw [hl]; omega) 144#32 144#32 (by decide)]; rfl
theorem idM_read (hb : b < 2) : fRead (idM c) ((b * 64 + 2 : Nat) : Int) = (0#32, 0) := by
  rw [fRead_at hu _ (by omega) (by show _ < (c.ws.length : Int); rw [hl]; omega), Int.toNat_natCast]
  have e : fReadDo (idM c) (b * 64 + 2) = fId (idM c) (b * 64 + 2) := rfl
  rw [e]
  unfold fId
  have hk : lk (idM c).locks ((b * 64 + 2) / 64) = false := lk_none _
  rw [hk, if_neg (by omega), if_neg (by omega), if_pos (by omega), if_neg (by decide)]
end
theorem idM_status (c : ChipM) : fStatus (idM c) = 128#32 := by simp [fStatus, idM, fNew]
theorem lockId_reset (b : Nat) (c : ChipM) : fReset (lockId b c) = fNew c := rfl
theorem lockM_ok (b : Nat) {c : ChipM} (h : ChipOk 2 c) : FlashOk 2 (lockM b c) :=
  ⟨h, .inr (.inl rfl), .inl rfl, by simp [lockM, fNew], by simp [lockM, noLocks], .inl rfl, fun _ => ⟨rfl, rfl, rfl⟩, fun e => absurd rfl e, by simp [lockM, fNew], by simp [lockM, fNew]⟩
theorem lockW_ok (b : Nat) : FlashOk 2 (lockW b) := (lockM_ok b new2_ok).waitTo rfl 64 (by simp)
theorem lockErr_ok (b : Nat) : FlashOk 2 (lockErr b) := by
  have e : lockErr b = fWith (lockM b (mNew 2 5)) 18#32 := by simp [fWith, lockErr, lockM, fNew]
  rw [e]
  exact (lockM_ok b new2_ok).with 18#32 (by decide)
theorem lockJob_ok (b o : Nat) (v : BitVec 32) (ho : o < 128) : FlashOk 2 (lockJob b o v) :=
  ⟨new2_ok, .inr (.inl rfl), .inl rfl, (by simp [lockJob, lockM, fNew]), (by simp [lockJob, lockM, noLocks]), .inr (.inl rfl), (fun e => (by cases e)), (fun _ => ⟨rfl, rfl, (by simp [lockJob]), (by simp [lockJob])⟩), (fun _ => (by show o < (mNew 2 5).ws.length; rw [new2_len]; exact ho)), (fun e => (by cases e))⟩
theorem lockId_ok (b : Nat) {c : ChipM} (h : ChipOk 2 c) : FlashOk 2 (lockId b c) := (lockM_ok b h).modeTo rfl 2 (by simp)
theorem idM_ok {c : ChipM} (h : ChipOk 2 c) : FlashOk 2 (idM c) := (FlashOk.new h).modeTo rfl 2 (by simp)
end Go.Proofs.Ytfckgfimmoinmaa
