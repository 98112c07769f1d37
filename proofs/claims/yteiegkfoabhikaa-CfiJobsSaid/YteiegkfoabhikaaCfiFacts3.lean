/- Plain facts of flashes for CfiJobs. -/
import Derived.Test.YteiegkfoabhikaaCfiFacts2
namespace Go.Proofs.Yteiegkfoabhikaa
open Bm

/-- A program of v at k, with n ticks left. -/
def jobM (k : Nat) (v : BitVec 32) (n : Int) : FlashM := { ordM with mode := 1, job := 64, at_ := k, v := v, left := n }
def doneM (k : Nat) (v : BitVec 32) : FlashM := { ordM with mode := 1, chip := oneM 2 k v }
def doneW (k : Nat) (v : BitVec 32) : FlashM := { doneM k v with wait := 32 }
/-- An erasure of k's block, with n ticks left. -/
def erM (k : Nat) (v : BitVec 32) (n : Int) : FlashM := { doneM k v with job := 32, at_ := k / 64, left := n }
def erased (k : Nat) (v : BitVec 32) : ChipM := { oneM 2 k v with wear := (oneM 2 k v).wear.set (k / 64) (nm (oneM 2 k v).wear (k / 64) + 1), ws := eraseTo (oneM 2 k v).ws (k / 64) 64 ones }
def finM (k : Nat) (v : BitVec 32) : FlashM := { ordM with mode := 1, chip := erased k v }

theorem job_wait (k : Nat) (hk : k < 128) : fWrite ordM k 64#32 = (waitM 64, 0) := by
  rw [ordM_idle.write k (by omega) (by rw [ordM_len]; omega) 64#32 64#32 (by decide)]; rfl
theorem job_begin (k : Nat) (v : BitVec 32) (hk : k < 128) : fWrite (waitM 64) k v = (jobM k v 3, 0) := by
  rw [fWrite_at (m := waitM 64) rfl k (by omega) (by show (k : Int) < ordM.chip.ws.length; rw [ordM_len]; omega), Int.toNat_natCast, fWriteDo_program (m := waitM 64) k v rfl rfl,
    fProgram_free (m := { waitM 64 with wait := 0, mode := 1 }) v (lk_none _)]
  rfl
theorem job_busy (k i : Nat) (v x : BitVec 32) (n : Int) (hi : i < 128) : fWrite (jobM k v n) i x = (jobM k v n, 0) := by
  rw [fWrite_at (m := jobM k v n) rfl i (by omega) (by show (i : Int) < ordM.chip.ws.length; rw [ordM_len]; omega), fWriteDo_busy (m := jobM k v n) _ x (by show (64 : Int) ≠ 0; decide)]
theorem job_status (k : Nat) (v : BitVec 32) (n : Int) : fStatus (jobM k v n) = 0#32 := by simp [fStatus, jobM, ordM, fNew]
theorem job_read (k i : Nat) (v : BitVec 32) (n : Int) (hi : i < 128) : fRead (jobM k v n) i = (0#32, 0) := by
  rw [fRead_at (m := jobM k v n) rfl i (by omega) (by show (i : Int) < ordM.chip.ws.length; rw [ordM_len]; omega)]
  rw [show fReadDo (jobM k v n) (i : Int).toNat = fStatus (jobM k v n) by simp [fReadDo, jobM], job_status]
theorem job_tick (k : Nat) (v : BitVec 32) (n : Int) (hn : 1 < n) : fTick (jobM k v n) 1 = (jobM k v (n - 1), 0) := by
  rw [fTick_wait (m := jobM k v n) rfl (by show 0 < ordM.chip.ws.length; rw [ordM_len]; omega) 1 (by omega) (by show (64 : Int) ≠ 0; decide) hn]
  rfl
theorem job_end (k : Nat) (v : BitVec 32) (hk : k < 128) : fTick (jobM k v 1) 1 = (doneM k v, 0) := by
  rw [fTick_done (m := jobM k v 1) rfl (by show 0 < ordM.chip.ws.length; rw [ordM_len]; omega) 1 (by omega) (by show (64 : Int) ≠ 0; decide) (by show (1 : Int) ≤ 1; omega)]
  rw [fDone_ok ((fJob_prog (m := jobM k v 1) rfl).trans (oneM_is 2 k v (by omega)))]
  rfl
theorem done_len (k : Nat) (v : BitVec 32) : (doneM k v).chip.ws.length = 128 := oneM_len 2 k v
theorem done_status (k : Nat) (v : BitVec 32) : fStatus (doneM k v) = 128#32 := by simp [fStatus, doneM, ordM, fNew]
theorem done_wait (k : Nat) (v : BitVec 32) (hk : k < 128) : fWrite (doneM k v) k 32#32 = (doneW k v, 0) := by
  rw [(⟨rfl, rfl, rfl⟩ : Idle (doneM k v)).write k (by omega) (by rw [done_len]; omega) 32#32 32#32 (by decide)]; rfl
theorem er_begin (k : Nat) (v : BitVec 32) (hk : k < 128) : fWrite (doneW k v) k 208#32 = (erM k v 20, 0) := by
  rw [fWrite_at (m := doneW k v) rfl k (by omega) (by show (k : Int) < (doneM k v).chip.ws.length; rw [done_len]; omega), Int.toNat_natCast, fWriteDo_erase (m := doneW k v) k _ rfl rfl]
  have hl : lk ({ doneW k v with wait := 0, mode := 1 } : FlashM).locks (k / 64) = false := lk_none _
  unfold fErase
  rw [if_neg (by decide), hl, if_neg (by decide)]
  rfl
theorem er_status (k : Nat) (v : BitVec 32) (n : Int) : fStatus (erM k v n) = 0#32 := by simp [fStatus, erM, doneM, ordM, fNew]
theorem er_tick (k : Nat) (v : BitVec 32) : fTick (erM k v 20) 19 = (erM k v 1, 0) := by
  rw [fTick_wait (m := erM k v 20) rfl (by show 0 < (doneM k v).chip.ws.length; rw [done_len]; omega) 19 (by omega) (by show (32 : Int) ≠ 0; decide) (by show (19 : Int) < 20; omega)]
  rfl
theorem er_end (k : Nat) (v : BitVec 32) (hk : k < 128) : fTick (erM k v 1) 1 = (finM k v, 0) := by
  rw [fTick_done (m := erM k v 1) rfl (by show 0 < (doneM k v).chip.ws.length; rw [done_len]; omega) 1 (by omega) (by show (32 : Int) ≠ 0; decide) (by show (1 : Int) ≤ 1; omega)]
  have hw : nm (oneM 2 k v).wear (k / 64) = 0 := nm_zeros _ _
  have hp : mErase (oneM 2 k v) (k / 64 : Nat) = (erased k v, 0) :=
    (⟨rfl, rfl⟩ : Plain (oneM 2 k v)).erase (k / 64) (by show k / 64 < 2; omega) (by rw [hw]; show (0 : Int) < 5; decide)
  rw [fDone_ok ((fJob_erase (m := erM k v 1) rfl).trans hp)]
  rfl
theorem fin_status (k : Nat) (v : BitVec 32) : fStatus (finM k v) = 128#32 := by simp [fStatus, finM, ordM, fNew]
theorem fin_len (k : Nat) (v : BitVec 32) : (finM k v).chip.ws.length = 128 := by
  show (eraseTo (oneM 2 k v).ws (k / 64) 64 ones).length = 128
  rw [eraseTo_length, oneM_len]
theorem fin_wd (k : Nat) (v : BitVec 32) (hk : k < 128) : U (wd (finM k v).chip.ws k) = 4294967295 := by
  have : wd (finM k v).chip.ws k = ones := by
    show wd (eraseTo (oneM 2 k v).ws (k / 64) 64 ones) k = ones
    rw [eraseTo_all _ _ _ _ (by rw [oneM_len]; omega), if_pos (by omega)]
  rw [this]; rfl
theorem fin_wear (k : Nat) (v : BitVec 32) (hk : k < 128) : mWear (finM k v).chip ((k / 64 : Nat) : Int) = 1 := by
  unfold mWear
  rw [if_neg (by omega), Int.toNat_natCast]
  show nm ((oneM 2 k v).wear.set (k / 64) (nm (oneM 2 k v).wear (k / 64) + 1)) (k / 64) = 1
  rw [nm_set_self _ _ _ (by show k / 64 < 2; omega), show nm (oneM 2 k v).wear (k / 64) = 0 from nm_zeros _ _]
  rfl
theorem ord_wd (k : Nat) (hk : k < 128) : U (wd ordM.chip.ws k) = 4294967295 := by
  rw [show wd ordM.chip.ws k = ones from wd_rep _ _ _ (by omega)]; rfl
theorem done_wd (k : Nat) (v : BitVec 32) (hk : k < 128) : U (wd (doneM k v).chip.ws k) = U v := by
  rw [show wd (doneM k v).chip.ws k = v from oneM_wd 2 k v (by omega)]
theorem wait64_ok : FlashOk 2 (waitM 64) := ordM_ok.waitTo rfl 64 (by simp)
theorem jobM_ok (k : Nat) (v : BitVec 32) (n : Int) (hk : k < 128) (h1 : 0 < n) (h2 : n ≤ 20) : FlashOk 2 (jobM k v n) :=
  ⟨new2_ok, .inr (.inl rfl), .inl rfl, (by simp [jobM, ordM, fNew]), (by simp [jobM, ordM, fNew, noLocks]), .inr (.inl rfl), (fun e => (by cases e)), (fun _ => ⟨rfl, rfl, h1, h2⟩), (fun _ => (by show k < (mNew 2 5).ws.length; rw [new2_len]; exact hk)), (fun e => (by cases e))⟩
theorem doneM_ok (k : Nat) (v : BitVec 32) (hk : k < 128) : FlashOk 2 (doneM k v) := (FlashOk.new (oneM_ok 2 k v (by omega) (by omega) (by omega))).modeTo rfl 1 (by simp)
theorem doneW_ok (k : Nat) (v : BitVec 32) (hk : k < 128) : FlashOk 2 (doneW k v) := (doneM_ok k v hk).waitTo rfl 32 (by simp)
theorem erM_ok (k : Nat) (v : BitVec 32) (n : Int) (hk : k < 128) (h1 : 0 < n) (h2 : n ≤ 20) : FlashOk 2 (erM k v n) :=
  ⟨(doneM_ok k v hk).chip, .inr (.inl rfl), .inl rfl, (by simp [erM, doneM, ordM, fNew]), (by simp [erM, doneM, ordM, fNew, noLocks]), .inr (.inr rfl), (fun e => (by cases e)), (fun _ => ⟨rfl, rfl, h1, h2⟩), (fun e => (by cases e)), (fun _ => (by show k / 64 < 2; omega))⟩
theorem finM_ok (k : Nat) (v : BitVec 32) (hk : k < 128) : FlashOk 2 (finM k v) := by
  have := (erM_ok k v 1 hk (by omega) (by omega)).tick 1
  rw [er_end k v hk] at this
  exact this
end Go.Proofs.Yteiegkfoabhikaa
