/- Plain facts of flashes: what calls leave where the power is on. -/
import Derived.Test.YtfckgfimmoinmaaCfiA
import Derived.Test.YtfckgfimmoinmaaNorLawMath
namespace Go.Proofs.Ytfckgfimmoinmaa
open Bm

/-- Nothing is waited for, and there is no job. -/
structure Idle (m : FlashM) : Prop where
  up : m.chip.up = true
  wait : m.wait = 0
  job : m.job = 0

theorem fRefuse_on {m : FlashM} (h : m.chip.up = true) (a : Int) (h0 : 0 ≤ a) (h1 : a < m.chip.ws.length) : fRefuse m a = 0 := by
  unfold fRefuse mRefuse
  rw [if_neg (by rw [h]; decide), if_neg (by omega)]
theorem fWrite_at {m : FlashM} (h : m.chip.up = true) (a : Int) (h0 : 0 ≤ a) (h1 : a < m.chip.ws.length) (v : BitVec 32) : fWrite m a v = (fWriteDo m a.toNat v, 0) := if_pos (fRefuse_on h a h0 h1)
theorem fRead_at {m : FlashM} (h : m.chip.up = true) (a : Int) (h0 : 0 ≤ a) (h1 : a < m.chip.ws.length) : fRead m a = (fReadDo m a.toNat, 0) := if_pos (fRefuse_on h a h0 h1)
theorem Idle.write {m : FlashM} (h : Idle m) (a : Int) (h0 : 0 ≤ a) (h1 : a < m.chip.ws.length) (v low : BitVec 32) (hl : v &&& 255#32 = low) : fWrite m a v = (fCommand m low, 0) := by
  rw [fWrite_at h.up a h0 h1]
  unfold fWriteDo
  rw [if_neg (by simpa using h.job), if_neg (by simpa using h.wait), hl]

/-- A flash of a chip that was programmed once. -/
def oneM (n : Nat) (k : Nat) (v : BitVec 32) : ChipM := { mNew n 5 with ws := (mNew n 5).ws.set k v }
theorem oneM_is (n k : Nat) (v : BitVec 32) (hk : k < n * 64) : mProgram (mNew n 5) k v = (oneM n k v, 0) := by
  have hl : k < (mNew n 5).ws.length := by simpa [mNew, mOf] using hk
  rw [(Plain.new n 5).program k v hl]
  have e : wd (mNew n 5).ws k = ones := by unfold mNew mOf; exact wd_rep _ _ _ hk
  rw [e, and_ones]
  rfl
theorem oneM_len (n k : Nat) (v : BitVec 32) : (oneM n k v).ws.length = n * 64 := by simp [oneM, mNew, mOf]
theorem oneM_wd (n k : Nat) (v : BitVec 32) (hk : k < n * 64) : wd (oneM n k v).ws k = v := wd_set_self _ _ _ (by simpa [mNew, mOf] using hk)
def modM (k : Nat) (v : BitVec 32) (mode : Int) : FlashM := { fNew (oneM 3 k v) with mode := mode }
theorem modM_idle (k : Nat) (v : BitVec 32) (o : Int) : Idle (modM k v o) := ⟨rfl, rfl, rfl⟩
theorem modM_zero (k : Nat) (v : BitVec 32) : ({ fNew (mNew 3 5) with chip := oneM 3 k v } : FlashM) = modM k v 0 := rfl
theorem modM_len (k : Nat) (v : BitVec 32) (o : Int) : (modM k v o).chip.ws.length = 192 := oneM_len 3 k v
theorem modM_status (k : Nat) (v : BitVec 32) (o : Int) : fWrite (modM k v o) 0 112#32 = (modM k v 1, 0) := by
  rw [(modM_idle k v o).write 0 (by omega) (by rw [modM_len]; omega) 112#32 112#32 (by decide)]; rfl
theorem modM_id (k : Nat) (v : BitVec 32) (o : Int) : fWrite (modM k v o) 0 144#32 = (modM k v 2, 0) := by
  rw [(modM_idle k v o).write 0 (by omega) (by rw [modM_len]; omega) 144#32 144#32 (by decide)]; rfl
theorem modM_query (k : Nat) (v : BitVec 32) (o : Int) : fWrite (modM k v o) 0 152#32 = (modM k v 3, 0) := by
  rw [(modM_idle k v o).write 0 (by omega) (by rw [modM_len]; omega) 152#32 152#32 (by decide)]; rfl
theorem modM_read (k : Nat) (v : BitVec 32) (o a : Int) (ha : a = k) (hk : k < 192) : fRead (modM k v o) a = (fReadDo (modM k v o) k, 0) := by
  subst ha
  exact fRead_at rfl _ (by omega) (by rw [modM_len]; omega)
theorem modM_r0 (k : Nat) (v : BitVec 32) (hk : k < 192) : fReadDo (modM k v 0) k = v := by
  show wd (oneM 3 k v).ws k = v
  exact oneM_wd 3 k v hk
theorem modM_r1 (k : Nat) (v : BitVec 32) : fReadDo (modM k v 1) k = 128#32 := by simp [fReadDo, modM, fStatus, fNew]
theorem modM_r2 (k : Nat) (v : BitVec 32) (i : Int) (hi : i = k) : U (fReadDo (modM k v 2) k) = if i % 64 = 1 then 24 else if i % 64 = 0 then 137 else 0 := by
  subst hi
  have e : fReadDo (modM k v 2) k = fId (modM k v 2) k := rfl
  rw [e]
  unfold fId
  have hl : lk (modM k v 2).locks (k / 64) = false := lk_none _
  rw [hl]
  simp only [Bool.false_eq_true, if_false, ite_self]
  by_cases c0 : k % 64 = 0
  · rw [if_pos c0, if_neg (by omega), if_pos (by omega)]; rfl
  by_cases c1 : k % 64 = 1
  · rw [if_neg c0, if_pos c1, if_pos (by omega)]; rfl
  rw [if_neg c0, if_neg c1, if_neg (by omega), if_neg (by omega)]
  rfl
theorem modM_r3 (k : Nat) (v : BitVec 32) (i : Int) (hi : i = k) : U (fReadDo (modM k v 3) k) = if i = 44 then 3 else if i = 18 then 89 else if i = 17 then 82 else if i = 16 then 81 else 0 := by
  subst hi
  have e : fReadDo (modM k v 3) k = fQuery (modM k v 3) k := rfl
  rw [e]
  unfold fQuery
  by_cases c0 : k = 16
  · subst c0; rfl
  by_cases c1 : k = 17
  · subst c1; rfl
  by_cases c2 : k = 18
  · subst c2; rfl
  by_cases c3 : k = 44
  · subst c3; rfl
  rw [if_neg c0, if_neg c1, if_neg c2, if_neg c3, if_neg (by omega), if_neg (by omega), if_neg (by omega), if_neg (by omega)]
  rfl

/-! For CfiOrders. -/
def ordM : FlashM := fNew (mNew 2 5)
def errM : FlashM := { ordM with mode := 1, errors := 48#32 }
def clrM : FlashM := { ordM with mode := 1 }
def waitM (n : Int) : FlashM := { ordM with mode := 1, wait := n }
theorem ordM_len : ordM.chip.ws.length = 128 := by simp [ordM, fNew, mNew, mOf]
theorem ordM_idle : Idle ordM := ⟨rfl, rfl, rfl⟩
theorem errM_idle : Idle errM := ⟨rfl, rfl, rfl⟩
def Known (low : BitVec 32) : Prop := low = 255#32 ∨ low = 112#32 ∨ low = 144#32 ∨ low = 152#32 ∨ low = 80#32 ∨ low = 64#32 ∨ low = 32#32 ∨ low = 96#32
theorem ord_bad (v : BitVec 32) (h : ¬ Known (v &&& 255#32)) : fWrite ordM 0 v = (errM, 0) := by
  rw [ordM_idle.write 0 (by omega) (by rw [ordM_len]; omega) v _ rfl]
  unfold Known at h
  simp only [not_or] at h
  obtain ⟨h1, h2, h3, h4, h5, h6, h7, h8⟩ := h
  unfold fCommand
  rw [if_neg h1, if_neg h2, if_neg h3, if_neg h4, if_neg h5, if_neg h6, if_neg h7, if_neg h8]
  rfl
theorem ord_wait32 : fWrite ordM 0 32#32 = (waitM 32, 0) := by
  rw [ordM_idle.write 0 (by omega) (by rw [ordM_len]; omega) 32#32 32#32 (by decide)]; rfl
theorem ord_wait96 : fWrite ordM 0 96#32 = (waitM 96, 0) := by
  rw [ordM_idle.write 0 (by omega) (by rw [ordM_len]; omega) 96#32 96#32 (by decide)]; rfl
theorem ord_bad32 (v : BitVec 32) (h : v &&& 255#32 ≠ 208#32) : fWrite (waitM 32) 0 v = (errM, 0) := by
  rw [fWrite_at (m := waitM 32) rfl 0 (by omega) (by show (0 : Int) < ordM.chip.ws.length; rw [ordM_len]; omega)]
  unfold fWriteDo fWaited fErase
  rw [if_neg (by decide), if_pos (by decide), if_neg (by decide), if_pos (by decide), if_pos h]
  rfl
theorem ord_bad96 (v : BitVec 32) (h : v &&& 255#32 ≠ 208#32) (h1 : v &&& 255#32 ≠ 1#32) : fWrite (waitM 96) 0 v = (errM, 0) := by
  rw [fWrite_at (m := waitM 96) rfl 0 (by omega) (by show (0 : Int) < ordM.chip.ws.length; rw [ordM_len]; omega)]
  unfold fWriteDo fWaited fLock
  rw [if_neg (by decide), if_pos (by decide), if_neg (by decide), if_neg (by decide), if_neg h1, if_neg h]
  rfl
theorem ord_clear : fWrite errM 0 80#32 = (clrM, 0) := by
  rw [errM_idle.write 0 (by omega) (by show (0 : Int) < ordM.chip.ws.length; rw [ordM_len]; omega) 80#32 80#32 (by decide)]; rfl
theorem errM_status : fStatus errM = 176#32 := by decide +kernel
theorem clrM_status : fStatus clrM = 128#32 := by decide +kernel
theorem ordM_ok : FlashOk 2 ordM := FlashOk.new (ChipOk.of _ 2 5 (by omega) (by omega) (by simp) (by omega) (by omega))
theorem waitM_ok (n : Int) (h : n = 32 ∨ n = 96) : FlashOk 2 (waitM n) := ordM_ok.waitTo rfl n (by omega)
theorem clrM_ok : FlashOk 2 clrM := ordM_ok.modeTo rfl 1 (by simp)
theorem errM_ok : FlashOk 2 errM := by
  have := clrM_ok.with 48#32 (by decide)
  exact this
theorem clrM_wd : wd clrM.chip.ws 0 = 4294967295#32 := by decide +kernel
end Go.Proofs.Ytfckgfimmoinmaa
