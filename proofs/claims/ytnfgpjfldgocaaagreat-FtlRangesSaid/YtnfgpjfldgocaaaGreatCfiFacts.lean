/- Small maps that a statement writes out: a map of memory that reads as a function. | Plain facts of flashes: what calls leave where the power is on. | Plain facts of flashes for CfiLocks and CfiJobs. -/
import Derived.Test.YtnfgpjfldgocaaaGreatCfiS
import Derived.Test.YtnfgpjfldgocaaaGreatCfiA
import Derived.Test.YtnfgpjfldgocaaaGreatNorLawM
import Derived.Test.YtnfgpjfldgocaaaGreatCfiB
namespace Go.Proofs.YtnfgpjfldgocaaaGreat
open Go.RowKit Go.Maps Bm

def iOk (i : Int) : Prop := -9223372036854775808 ≤ i ∧ i ≤ 9223372036854775807
def uOk (i : Int) : Prop := 0 ≤ i ∧ i ≤ 4294967295
theorem wf_i {i : Int} (h : iOk i) : (Lit.int .i64 i).wf = true := by
  obtain ⟨a, b⟩ := h
  simp [Lit.wf, IntKind.signed, IntKind.bits, IntKind.min, IntKind.max]; omega
theorem wf_u {i : Int} (h : uOk i) : (Lit.int .u32 i).wf = true := by
  obtain ⟨a, b⟩ := h
  simp [Lit.wf, IntKind.signed, IntKind.bits, IntKind.min, IntKind.max]; omega

/-- Block b is a map of at most n entries that reads as g. -/
structure MapIs (w : World) (b n : Nat) (g : Int → Int) : Prop where
  ex : ∃ D : DataW Unit, w.ownsMap Tryz.prog 3 (plainElem Tryz.prog 38) b n D ∧ ∀ i : Int, iOk i → D.atKey (.int .i64 i) (.lit (.int .u32 0)) = .lit (.int .u32 (g i))
theorem MapIs.news (w : World) : MapIs (w.alloc (.map #[] 0)) w.heap.size 0 (fun _ => 0) :=
  ⟨.map [], World.ownsMap_made w _ _ _, fun _ _ => rfl⟩
theorem MapIs.look {w : World} {b n : Nat} {g : Int → Int} (h : MapIs w b n g) (i : Int) (hi : iOk i) :
    (Instr.lookup 116 (.map (some b)) (.int .i64 i) false).run Tryz.prog w = .ok (.int .u32 (g i)) w := by
  obtain ⟨D, h1, h3⟩ := h
  obtain ⟨c, hrun, hat, _⟩ := h1.lookup_int lawI Tryz.underlying116 Tryz.underlying38 (zeroU w) (keyOf_int_mk Tryz.underlying3 (wf_i hi))
  rw [h3 i hi] at hat
  simp only [DataW.lit.injEq, Lit.int.injEq, true_and] at hat
  rw [hrun, hat]
theorem MapIs.store {w : World} {b n : Nat} {g : Int → Int} (h : MapIs w b n g) (hn : n < 100) (i v : Int) (_hi : iOk i) (hv : uOk v) :
    ∃ w', (Instr.mapUpdate 116 (.map (some b)) (.int .i64 i) (.int .u32 v)).run Tryz.prog w = .ok () w' ∧ MapIs w' b (n + 1) (fun j => if j = i then v else g j) ∧ Turned (Just b) w w' := by
  obtain ⟨D, h1, h3⟩ := h
  obtain ⟨w', hrun, ho, ht⟩ := h1.store lawI Tryz.underlying116 (by unfold maxLen; omega) (keyOf_int_mk Tryz.underlying3 (wf_i _hi)) (plainElem_int (H := Unit) Tryz.underlying38 (q := .u32) (a := v) (wf_u hv))
  refine ⟨w', hrun, ⟨_, ho, ?_⟩, ?_⟩
  · intro j hj
    by_cases e : j = i
    · subst e
      rw [if_pos rfl, atKey_put_same h1.isMap (isKeyI _)]
    · rw [if_neg e, atKey_put_other (by intro e'; simp only [Lit.int.injEq, true_and] at e'; exact e e')]
      exact h3 j hj
  · exact (Turned.refl _ _).grown ht.grown (fun k hk _ => by simp only [Option.some.injEq] at hk; exact hk.symm)
theorem turned_new {w w' : World} {o : Obj} (t : Turned (Just w.heap.size) (w.alloc o) w') : Below w.heap.size w w' :=
  (((Turned.refl NoBlock w).alloc o).after t (fun i hi e => by unfold Just at e; omega)).below (fun _ h => h.elim) (Nat.le_refl _)

/-- The map of two words, and of four. -/
theorem map_two (w : World) (a0 v0 a1 v1 i : Int) (h0 : iOk a0) (h1 : iOk a1) (u0 : uOk v0) (u1 : uOk v1) (hi : iOk i) :
    ∃ w1 w2, (Instr.mapUpdate 116 (.map (some w.heap.size)) (.int .i64 a0) (.int .u32 v0)).run Tryz.prog (w.alloc (.map #[] 0)) = .ok () w1 ∧
      (Instr.mapUpdate 116 (.map (some w.heap.size)) (.int .i64 a1) (.int .u32 v1)).run Tryz.prog w1 = .ok () w2 ∧
      (Instr.lookup 116 (.map (some w.heap.size)) (.int .i64 i) false).run Tryz.prog w2 = .ok (.int .u32 (if i = a1 then v1 else if i = a0 then v0 else 0)) w2 ∧ Below w.heap.size w w2 := by
  obtain ⟨w1, r1, m1, t1⟩ := (MapIs.news w).store (by omega) a0 v0 h0 u0
  obtain ⟨w2, r2, m2, t2⟩ := m1.store (by omega) a1 v1 h1 u1
  exact ⟨w1, w2, r1, r2, m2.look i hi, turned_new (t1.trans t2)⟩
theorem map_four (w : World) (a0 v0 a1 v1 a2 v2 a3 v3 i : Int) (h0 : iOk a0) (h1 : iOk a1) (h2 : iOk a2) (h3 : iOk a3) (u0 : uOk v0) (u1 : uOk v1) (u2 : uOk v2) (u3 : uOk v3) (hi : iOk i) :
    ∃ w1 w2 w3 w4, (Instr.mapUpdate 116 (.map (some w.heap.size)) (.int .i64 a0) (.int .u32 v0)).run Tryz.prog (w.alloc (.map #[] 0)) = .ok () w1 ∧
      (Instr.mapUpdate 116 (.map (some w.heap.size)) (.int .i64 a1) (.int .u32 v1)).run Tryz.prog w1 = .ok () w2 ∧
      (Instr.mapUpdate 116 (.map (some w.heap.size)) (.int .i64 a2) (.int .u32 v2)).run Tryz.prog w2 = .ok () w3 ∧
      (Instr.mapUpdate 116 (.map (some w.heap.size)) (.int .i64 a3) (.int .u32 v3)).run Tryz.prog w3 = .ok () w4 ∧
      (Instr.lookup 116 (.map (some w.heap.size)) (.int .i64 i) false).run Tryz.prog w4 = .ok (.int .u32 (if i = a3 then v3 else if i = a2 then v2 else if i = a1 then v1 else if i = a0 then v0 else 0)) w4 ∧ Below w.heap.size w w4 := by
  obtain ⟨w1, r1, m1, t1⟩ := (MapIs.news w).store (by omega) a0 v0 h0 u0
  obtain ⟨w2, r2, m2, t2⟩ := m1.store (by omega) a1 v1 h1 u1
  obtain ⟨w3, r3, m3, t3⟩ := m2.store (by omega) a2 v2 h2 u2
  obtain ⟨w4, r4, m4, t4⟩ := m3.store (by omega) a3 v3 h3 u3
  exact ⟨w1, w2, w3, w4, r1, r2, r3, r4, m4.look i hi, turned_new (((t1.trans t2).trans t3).trans t4)⟩
end Go.Proofs.YtnfgpjfldgocaaaGreat

namespace Go.Proofs.YtnfgpjfldgocaaaGreat
open Bm

/-- Nothing is waited for, and there is no job. -/
structure Idle (m : FlashM) : Prop where
  up : m.chip.up = true
  wait : m.wait = 0
  job : m.job = 0

theorem fRefuse_on {m : FlashM} (h : m.chip.up = true) (a : Int) (h0 : 0 ≤ a) (h1 : a < m.chip.ws.length) : fRefuse m a = 0 := by
  unfold fRefuse mRefuse
  rw [if_neg (by rw [h]; decide), if_neg (by omega)]
theorem fWrite_at {m : FlashM} (h : m.chip.up = true) (a : Int) (h0 : 0 ≤ a) (h1 : a < m.chip.ws.length) (v : BitVec 32) : fWrite m a v = (fWriteDo m a.toNat v, 0) := if_pos (fRefuse_on h a h0 h1)
theorem fRead_at {m : FlashM} (h : m.chip.up = true) (a : Int) (h0 : 0 ≤ a) (h1 : a < m.chip.ws.length) : fRead m a = (fReadDo m a.toNat, 0) := if_pos (fRefuse_on h a h0 h1)
theorem Idle.write {m : FlashM} (h : Idle m) (a : Int) (h0 : 0 ≤ a) (h1 : a < m.chip.ws.length) (v low : BitVec 32) (hl : v &&& 255#32 = low) : fWrite m a v = (fCommand m low, 0) := by
  rw [fWrite_at h.up a h0 h1]
  unfold fWriteDo
  rw [if_neg (by simpa using h.job), if_neg (by simpa using h.wait), hl]

/-- A flash of a chip that was programmed once. -/
def oneM (n : Nat) (k : Nat) (v : BitVec 32) : ChipM := { mNew n 5 with ws := (mNew n 5).ws.set k v }
theorem oneM_is (n k : Nat) (v : BitVec 32) (hk : k < n * 64) : mProgram (mNew n 5) k v = (oneM n k v, 0) := by
  have hl : k < (mNew n 5).ws.length := by simpa [mNew, mOf] using hk
  rw [(Plain.new n 5).program k v hl]
  have e : wd (mNew n 5).ws k = ones := by unfold mNew mOf; exact wd_rep _ _ _ hk
  rw [e, and_ones]
  rfl
theorem oneM_len (n k : Nat) (v : BitVec 32) : (oneM n k v).ws.length = n * 64 := by simp [oneM, mNew, mOf]
theorem oneM_wd (n k : Nat) (v : BitVec 32) (hk : k < n * 64) : wd (oneM n k v).ws k = v := wd_set_self _ _ _ (by simpa [mNew, mOf] using hk)
def modM (k : Nat) (v : BitVec 32) (mode : Int) : FlashM := { fNew (oneM 3 k v) with mode := mode }
theorem modM_idle (k : Nat) (v : BitVec 32) (o : Int) : Idle (modM k v o) := ⟨rfl, rfl, rfl⟩
theorem modM_zero (k : Nat) (v : BitVec 32) : ({ fNew (mNew 3 5) with chip := oneM 3 k v } : FlashM) = modM k v 0 := rfl
theorem modM_len (k : Nat) (v : BitVec 32) (o : Int) : (modM k v o).chip.ws.length = 192 := oneM_len 3 k v
theorem modM_status (k : Nat) (v : BitVec 32) (o : Int) : fWrite (modM k v o) 0 112#32 = (modM k v 1, 0) := by
  rw [(modM_idle k v o).write 0 (by omega) (by rw [modM_len]; omega) 112#32 112#32 (by decide)]; rfl
theorem modM_id (k : Nat) (v : BitVec 32) (o : Int) : fWrite (modM k v o) 0 144#32 = (modM k v 2, 0) := by
  rw [(modM_idle k v o).write 0 (by omega) (by rw [modM_len]; omega) 144#32 144#32 (by decide)]; rfl
theorem modM_query (k : Nat) (v : BitVec 32) (o : Int) : fWrite (modM k v o) 0 152#32 = (modM k v 3, 0) := by
  rw [(modM_idle k v o).write 0 (by omega) (by rw [modM_len]; omega) 152#32 152#32 (by decide)]; rfl
theorem modM_read (k : Nat) (v : BitVec 32) (o a : Int) (ha : a = k) (hk : k < 192) : fRead (modM k v o) a = (fReadDo (modM k v o) k, 0) := by
  subst ha
  exact fRead_at rfl _ (by omega) (by rw [modM_len]; omega)
theorem modM_r0 (k : Nat) (v : BitVec 32) (hk : k < 192) : fReadDo (modM k v 0) k = v := by
  show wd (oneM 3 k v).ws k = v
  exact oneM_wd 3 k v hk
theorem modM_r1 (k : Nat) (v : BitVec 32) : fReadDo (modM k v 1) k = 128#32 := by simp [fReadDo, modM, fStatus, fNew]
theorem modM_r2 (k : Nat) (v : BitVec 32) (i : Int) (hi : i = k) : U (fReadDo (modM k v 2) k) = if i % 64 = 1 then 24 else if i % 64 = 0 then 137 else 0 := by
  subst hi
  have e : fReadDo (modM k v 2) k = fId (modM k v 2) k := rfl
  rw [e]
  unfold fId
  have hl : lk (modM k v 2).locks (k / 64) = false := lk_none _
  rw [hl]
  simp only [Bool.false_eq_true, if_false, ite_self]
  by_cases c0 : k % 64 = 0
  · rw [if_pos c0, if_neg (by omega), if_pos (by omega)]; rfl
  by_cases c1 : k % 64 = 1
  · rw [if_neg c0, if_pos c1, if_pos (by omega)]; rfl
  rw [if_neg c0, if_neg c1, if_neg (by omega), if_neg (by omega)]
  rfl
theorem modM_r3 (k : Nat) (v : BitVec 32) (i : Int) (hi : i = k) : U (fReadDo (modM k v 3) k) = if i = 44 then 3 else if i = 18 then 89 else if i = 17 then 82 else if i = 16 then 81 else 0 := by
  subst hi
  have e : fReadDo (modM k v 3) k = fQuery (modM k v 3) k := rfl
  rw [e]
  unfold fQuery
  by_cases c0 : k = 16
  · subst c0; rfl
  by_cases c1 : k = 17
  · subst c1; rfl
  by_cases c2 : k = 18
  · subst c2; rfl
  by_cases c3 : k = 44
  · subst c3; rfl
  rw [if_neg c0, if_neg c1, if_neg c2, if_neg c3, if_neg (by omega), if_neg (by omega), if_neg (by omega), if_neg (by omega)]
  rfl

/-! For CfiOrders. -/
def ordM : FlashM := fNew (mNew 2 5)
def errM : FlashM := { ordM with mode := 1, errors := 48#32 }
def clrM : FlashM := { ordM with mode := 1 }
def waitM (n : Int) : FlashM := { ordM with mode := 1, wait := n }
theorem ordM_len : ordM.chip.ws.length = 128 := by simp [ordM, fNew, mNew, mOf]
theorem ordM_idle : Idle ordM := ⟨rfl, rfl, rfl⟩
theorem errM_idle : Idle errM := ⟨rfl, rfl, rfl⟩
def Known (low : BitVec 32) : Prop := low = 255#32 ∨ low = 112#32 ∨ low = 144#32 ∨ low = 152#32 ∨ low = 80#32 ∨ low = 64#32 ∨ low = 32#32 ∨ low = 96#32
theorem ord_bad (v : BitVec 32) (h : ¬ Known (v &&& 255#32)) : fWrite ordM 0 v = (errM, 0) := by
  rw [ordM_idle.write 0 (by omega) (by rw [ordM_len]; omega) v _ rfl]
  unfold Known at h
  simp only [not_or] at h
  obtain ⟨h1, h2, h3, h4, h5, h6, h7, h8⟩ := h
  unfold fCommand
  rw [if_neg h1, if_neg h2, if_neg h3, if_neg h4, if_neg h5, if_neg h6, if_neg h7, if_neg h8]
  rfl
theorem ord_wait32 : fWrite ordM 0 32#32 = (waitM 32, 0) := by
  rw [ordM_idle.write 0 (by omega) (by rw [ordM_len]; omega) 32#32 32#32 (by decide)]; rfl
theorem ord_wait96 : fWrite ordM 0 96#32 = (waitM 96, 0) := by
  rw [ordM_idle.write 0 (by omega) (by rw [ordM_len]; omega) 96#32 96#32 (by decide)]; rfl
theorem ord_bad32 (v : BitVec 32) (h : v &&& 255#32 ≠ 208#32) : fWrite (waitM 32) 0 v = (errM, 0) := by
  rw [fWrite_at (m := waitM 32) rfl 0 (by omega) (by show (0 : Int) < ordM.chip.ws.length; rw [ordM_len]; omega)]
  unfold fWriteDo fWaited fErase
  rw [if_neg (by decide), if_pos (by decide), if_neg (by decide), if_pos (by decide), if_pos h]
  rfl
theorem ord_bad96 (v : BitVec 32) (h : v &&& 255#32 ≠ 208#32) (h1 : v &&& 255#32 ≠ 1#32) : fWrite (waitM 96) 0 v = (errM, 0) := by
  rw [fWrite_at (m := waitM 96) rfl 0 (by omega) (by show (0 : Int) < ordM.chip.ws.length; rw [ordM_len]; omega)]
  unfold fWriteDo fWaited fLock
  rw [if_neg (by decide), if_pos (by decide), if_neg (by decide), if_neg (by decide), if_neg h1, if_neg h]
  rfl
theorem ord_clear : fWrite errM 0 80#32 = (clrM, 0) := by
  rw [errM_idle.write 0 (by omega) (by show (0 : Int) < ordM.chip.ws.length; rw [ordM_len]; omega) 80#32 80#32 (by decide)]; rfl
theorem errM_status : fStatus errM = 176#32 := by decide +kernel
theorem clrM_status : fStatus clrM = 128#32 := by decide +kernel
theorem ordM_ok : FlashOk 2 ordM := FlashOk.new (ChipOk.of _ 2 5 (by omega) (by omega) (by simp) (by omega) (by omega))
theorem waitM_ok (n : Int) (h : n = 32 ∨ n = 96) : FlashOk 2 (waitM n) := ordM_ok.waitTo rfl n (by omega)
theorem clrM_ok : FlashOk 2 clrM := ordM_ok.modeTo rfl 1 (by simp)
theorem errM_ok : FlashOk 2 errM := by
  have := clrM_ok.with 48#32 (by decide)
  exact this
theorem clrM_wd : wd clrM.chip.ws 0 = 4294967295#32 := by decide +kernel
end Go.Proofs.YtnfgpjfldgocaaaGreat

namespace Go.Proofs.YtnfgpjfldgocaaaGreat
open Bm

theorem fProgram_locked {m : FlashM} {i : Nat} (v : BitVec 32) (h : lk m.locks (i / 64) = true) : fProgram m i v = fWith m 18#32 := if_pos h
theorem fProgram_free {m : FlashM} {i : Nat} (v : BitVec 32) (h : lk m.locks (i / 64) = false) : fProgram m i v = { m with job := 64, at_ := i, v := v, left := 3 } := if_neg (by rw [h]; decide)
theorem oneM_up (n k : Nat) (v : BitVec 32) : (oneM n k v).up = true := rfl
theorem oneM_ok (n k : Nat) (v : BitVec 32) (hk : k < n * 64) (n1 : 1 ≤ n) (n2 : n ≤ 64) : ChipOk n (oneM n k v) := by
  have := (ChipOk.of (List.replicate (n * 64) ones) n 5 n1 n2 (by simp) (by omega) (by omega)).program k v
  have e := oneM_is n k v hk
  unfold mNew at e
  rw [e] at this
  exact this
theorem new2_ok : ChipOk 2 (mNew 2 5) := ChipOk.of _ 2 5 (by omega) (by omega) (by simp) (by omega) (by omega)
theorem new2_len : (mNew 2 5).ws.length = 128 := by simp [mNew, mOf]

theorem lockAt_ord (k : Nat) (hk : k < 128) : fWrite ordM k 96#32 = (waitM 96, 0) := by
  rw [ordM_idle.write k (by omega) (by rw [ordM_len]; omega) 96#32 96#32 (by decide)]; rfl
/-- Block b is locked; the chip is c. -/
def lockM (b : Nat) (c : ChipM) : FlashM := { fNew c with mode := 1, locks := noLocks.set b true }
def lockW (b : Nat) : FlashM := { lockM b (mNew 2 5) with wait := 64 }
def lockErr (b : Nat) : FlashM := { lockM b (mNew 2 5) with errors := 18#32 }
def lockJob (b o : Nat) (v : BitVec 32) : FlashM := { lockM b (mNew 2 5) with job := 64, at_ := o, v := v, left := 3 }
def lockId (b : Nat) (c : ChipM) : FlashM := { lockM b c with mode := 2 }
def idM (c : ChipM) : FlashM := { fNew c with mode := 2 }
theorem lockM_idle (b : Nat) (c : ChipM) (h : c.up = true) : Idle (lockM b c) := ⟨h, rfl, rfl⟩
theorem lock_locks (k : Nat) (hk : k < 128) : fWrite (waitM 96) k 1#32 = (lockM (k / 64) (mNew 2 5), 0) := by
  rw [fWrite_at (m := waitM 96) rfl k (by omega) (by show (k : Int) < ordM.chip.ws.length; rw [ordM_len]; omega)]
  unfold fWriteDo fWaited fLock
  rw [if_neg (by decide), if_pos (by decide), if_neg (by decide), if_neg (by decide), if_pos (by decide)]
  rfl
theorem lock_program (b o : Nat) (ho : o < 128) : fWrite (lockM b (mNew 2 5)) o 64#32 = (lockW b, 0) := by
  rw [(lockM_idle b _ rfl).write o (by omega) (by show (o : Int) < (mNew 2 5).ws.length; rw [new2_len]; omega) 64#32 64#32 (by decide)]; rfl
theorem lock_err (b o : Nat) (v : BitVec 32) (ho : o < 128) (hb : o / 64 = b) : fWrite (lockW b) o v = (lockErr b, 0) := by
  rw [fWrite_at (m := lockW b) rfl o (by omega) (by show (o : Int) < (mNew 2 5).ws.length; rw [new2_len]; omega)]
  have hl : lk (noLocks.set b true) (o / 64) = true := by rw [hb]; exact lk_set_self _ _ _ (by simp [noLocks]; omega)
  rw [Int.toNat_natCast, fWriteDo_program (m := lockW b) o v rfl rfl]
  rw [fProgram_locked (m := { lockW b with wait := 0, mode := 1 }) v hl]
  simp [fWith, lockW, lockErr, lockM, fNew]
theorem lock_job (b o : Nat) (v : BitVec 32) (ho : o < 128) (hb : b ≠ o / 64) : fWrite (lockW b) o v = (lockJob b o v, 0) := by
  rw [fWrite_at (m := lockW b) rfl o (by omega) (by show (o : Int) < (mNew 2 5).ws.length; rw [new2_len]; omega)]
  have hl : lk (noLocks.set b true) (o / 64) = false := by rw [lk_set_other _ _ _ _ hb]; exact lk_none _
  rw [Int.toNat_natCast, fWriteDo_program (m := lockW b) o v rfl rfl]
  rw [fProgram_free (m := { lockW b with wait := 0, mode := 1 }) v hl]
  rfl
theorem lockErr_status (b : Nat) : fStatus (lockErr b) = 146#32 := by simp [fStatus, lockErr, lockM, fNew]
theorem lockJob_status (b o : Nat) (v : BitVec 32) : fStatus (lockJob b o v) = 0#32 := by simp [fStatus, lockJob, lockM, fNew]
theorem fTick_on {m : FlashM} (h : m.chip.up = true) (hl : 0 < m.chip.ws.length) (n : Int) (hn : 0 ≤ n) : fTick m n = if m.job = 0 then (m, 0) else if n < m.left then ({ m with left := m.left - n }, 0) else fDone m := by
  unfold fTick
  rw [if_neg (by rw [fRefuse_on h 0 (by omega) (by omega)]; decide), if_neg (by omega)]
theorem fTick_idle {m : FlashM} (h : m.chip.up = true) (hl : 0 < m.chip.ws.length) (n : Int) (hn : 0 ≤ n) (j : m.job = 0) : fTick m n = (m, 0) := by rw [fTick_on h hl n hn, if_pos j]
theorem fTick_wait {m : FlashM} (h : m.chip.up = true) (hl : 0 < m.chip.ws.length) (n : Int) (hn : 0 ≤ n) (j : m.job ≠ 0) (k : n < m.left) : fTick m n = ({ m with left := m.left - n }, 0) := by rw [fTick_on h hl n hn, if_neg j, if_pos k]
theorem fTick_done {m : FlashM} (h : m.chip.up = true) (hl : 0 < m.chip.ws.length) (n : Int) (hn : 0 ≤ n) (j : m.job ≠ 0) (k : m.left ≤ n) : fTick m n = fDone m := by rw [fTick_on h hl n hn, if_neg j, if_neg (by omega)]
theorem fDone_ok {m : FlashM} {c : ChipM} (h : fJob m = (c, 0)) : fDone m = (fIdle m c, 0) := by
  unfold fDone
  rw [h]
  exact if_neg (show ¬ (0 : Int) = 5 by decide)
theorem fJob_prog {m : FlashM} (h : m.job = 64) : fJob m = mProgram m.chip m.at_ m.v := if_pos h
theorem fJob_erase {m : FlashM} (h : m.job = 32) : fJob m = mErase m.chip m.at_ := if_neg (by rw [h]; decide)
theorem lockErr_tick (b : Nat) : fTick (lockErr b) 3 = (lockErr b, 0) := by
  exact fTick_idle (m := lockErr b) rfl (by show 0 < (mNew 2 5).ws.length; rw [new2_len]; omega) 3 (by omega) rfl
theorem lockJob_tick (b o : Nat) (v : BitVec 32) (ho : o < 128) : fTick (lockJob b o v) 3 = (lockM b (oneM 2 o v), 0) := by
  rw [fTick_done (m := lockJob b o v) rfl (by show 0 < (mNew 2 5).ws.length; rw [new2_len]; omega) 3 (by omega) (by show (64 : Int) ≠ 0; decide) (by show (3 : Int) ≤ 3; omega)]
  rw [fDone_ok ((fJob_prog (m := lockJob b o v) rfl).trans (oneM_is 2 o v (by omega)))]
  rfl
theorem lockErr_clear (b : Nat) : fWrite (lockErr b) 0 80#32 = (lockM b (mNew 2 5), 0) := by
  rw [(⟨rfl, rfl, rfl⟩ : Idle (lockErr b)).write 0 (by omega) (by show (0 : Int) < (mNew 2 5).ws.length; rw [new2_len]; omega) 80#32 80#32 (by decide)]; rfl
section
variable (b : Nat) (c : ChipM) (hu : c.up = true) (hl : c.ws.length = 128)
include hu hl
theorem lockM_clear : fWrite (lockM b c) 0 80#32 = (lockM b c, 0) := by
  rw [(lockM_idle b c hu).write 0 (by omega) (by show (0 : Int) < c.ws.length; rw [hl]; omega) 80#32 80#32 (by decide)]; rfl
theorem lockM_id : fWrite (lockM b c) 0 144#32 = (lockId b c, 0) := by
  rw [(lockM_idle b c hu).write 0 (by omega) (by show (0 : Int) < c.ws.length; rw [hl]; omega) 144#32 144#32 (by decide)]; rfl
theorem lockId_read (hb : b < 2) : fRead (lockId b c) ((b * 64 + 2 : Nat) : Int) = (1#32, 0) := by
  rw [fRead_at hu _ (by omega) (by show _ < (c.ws.length : Int); rw [hl]; omega), Int.toNat_natCast]
  have e : fReadDo (lockId b c) (b * 64 + 2) = fId (lockId b c) (b * 64 + 2) := rfl
  rw [e]
  unfold fId
  have hk : lk (lockId b c).locks ((b * 64 + 2) / 64) = true := by
    rw [show (b * 64 + 2) / 64 = b by omega]
    exact lk_set_self _ _ _ (by simp [noLocks]; omega)
  rw [hk, if_neg (by omega), if_neg (by omega), if_pos (by omega), if_pos rfl]
theorem new_id : fWrite (fNew c) 0 144#32 = (idM c, 0) := by
  rw [(⟨hu, rfl, rfl⟩ : Idle (fNew c)).write 0 (by omega) (by show (0 : Int) < c.ws.length; rw [hl]; omega) 144#32 144#32 (by decide)]; rfl
theorem idM_read (hb : b < 2) : fRead (idM c) ((b * 64 + 2 : Nat) : Int) = (0#32, 0) := by
  rw [fRead_at hu _ (by omega) (by show _ < (c.ws.length : Int); rw [hl]; omega), Int.toNat_natCast]
  have e : fReadDo (idM c) (b * 64 + 2) = fId (idM c) (b * 64 + 2) := rfl
  rw [e]
  unfold fId
  have hk : lk (idM c).locks ((b * 64 + 2) / 64) = false := lk_none _
  rw [hk, if_neg (by omega), if_neg (by omega), if_pos (by omega), if_neg (by decide)]
end
theorem idM_status (c : ChipM) : fStatus (idM c) = 128#32 := by simp [fStatus, idM, fNew]
theorem lockId_reset (b : Nat) (c : ChipM) : fReset (lockId b c) = fNew c := rfl
theorem lockM_ok (b : Nat) {c : ChipM} (h : ChipOk 2 c) : FlashOk 2 (lockM b c) :=
  ⟨h, .inr (.inl rfl), .inl rfl, by simp [lockM, fNew], by simp [lockM, noLocks], .inl rfl, fun _ => ⟨rfl, rfl, rfl⟩, fun e => absurd rfl e, by simp [lockM, fNew], by simp [lockM, fNew]⟩
theorem lockW_ok (b : Nat) : FlashOk 2 (lockW b) := (lockM_ok b new2_ok).waitTo rfl 64 (by simp)
theorem lockErr_ok (b : Nat) : FlashOk 2 (lockErr b) := by
  have e : lockErr b = fWith (lockM b (mNew 2 5)) 18#32 := by simp [fWith, lockErr, lockM, fNew]
  rw [e]
  exact (lockM_ok b new2_ok).with 18#32 (by decide)
theorem lockJob_ok (b o : Nat) (v : BitVec 32) (ho : o < 128) : FlashOk 2 (lockJob b o v) :=
  ⟨new2_ok, .inr (.inl rfl), .inl rfl, (by simp [lockJob, lockM, fNew]), (by simp [lockJob, lockM, noLocks]), .inr (.inl rfl), (fun e => (by cases e)), (fun _ => ⟨rfl, rfl, (by simp [lockJob]), (by simp [lockJob])⟩), (fun _ => (by show o < (mNew 2 5).ws.length; rw [new2_len]; exact ho)), (fun e => (by cases e))⟩
theorem lockId_ok (b : Nat) {c : ChipM} (h : ChipOk 2 c) : FlashOk 2 (lockId b c) := (lockM_ok b h).modeTo rfl 2 (by simp)
theorem idM_ok {c : ChipM} (h : ChipOk 2 c) : FlashOk 2 (idM c) := (FlashOk.new h).modeTo rfl 2 (by simp)
end Go.Proofs.YtnfgpjfldgocaaaGreat
