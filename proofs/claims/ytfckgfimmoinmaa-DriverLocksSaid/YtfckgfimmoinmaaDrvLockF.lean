/- Plain facts for the statement DriverLocks. -/
import Derived.Test.YtfckgfimmoinmaaDrvFacts
namespace Go.Proofs.Ytfckgfimmoinmaa
open Bm

theorem program_one (d : DrvM) (a : Int) (v : BitVec 32) : dProgram d a [v] = dPut d a v := by
  rw [dProgram]
  split
  · rename_i h
    rw [dProgram, Prod.ext_iff]
    exact ⟨rfl, h.symm⟩
  · rfl
theorem wear_at (c : ChipM) (b : Nat) : mWear c b = nm c.wear b := by
  unfold mWear
  rw [if_neg (by omega)]
  rfl
theorem new3_wd (i : Nat) (h : i < 192) : wd (mNew 3 5).ws i = ones := by unfold mNew mOf; exact wd_rep _ _ _ (by omega)
theorem new3_len : (mNew 3 5).ws.length = 192 := by unfold mNew mOf; exact List.length_replicate
theorem new3_wear (b : Nat) : nm (mNew 3 5).wear b = 0 := by unfold mNew mOf; exact nm_zeros 3 b

/-- What DriverLocks comes by. -/
structure LockF (a b : Nat) (v : BitVec 32) (w : Int) (d1 d2 d3 d4 d5 d6 : DrvM) : Prop where
  e1 : dLock ⟨fNew (mNew 3 5), 0⟩ a true = (d1, 0)
  e2 : dProgram d1 (64 * (b : Int)) [v] = (d2, w)
  e3 : dErase d2 b = (d3, w)
  e4 : dLock d3 a false = (d4, 0)
  w4 : mWear d4.f.chip a = 0
  e5 : dProgram d4 (64 * (a : Int)) [v] = (d5, 0)
  w5 : wd d5.f.chip.ws (64 * a) = v
  e6 : dErase d5 a = (d6, 0)
  w6 : mWear d6.f.chip a = 1
  f1 : Fit 3 d1
  f2 : Fit 3 d2
  f3 : Fit 3 d3
  f4 : Fit 3 d4
  f5 : Fit 3 d5
  f6 : Fit 3 d6
  t1 : 0 ≤ d1.t ∧ d1.t ≤ 1000
  t2 : 0 ≤ d2.t ∧ d2.t ≤ 1000
  t4 : 0 ≤ d4.t ∧ d4.t ≤ 1000
  t5 : 0 ≤ d5.t ∧ d5.t ≤ 1000

theorem lockF_end (a : Nat) (v : BitVec 32) (ha : a < 3) (d4 : DrvM) (f4 : Fit 3 d4) (t4 : 0 ≤ d4.t ∧ d4.t ≤ 100) (hl : lk d4.f.locks a = false) (hw : nm d4.f.chip.wear a = 0) (he : d4.f.chip.endure = 5) (hx : wd d4.f.chip.ws (64 * a) = ones) :
    ∃ d5 d6, dProgram d4 (64 * (a : Int)) [v] = (d5, 0) ∧ wd d5.f.chip.ws (64 * a) = v ∧ dErase d5 a = (d6, 0) ∧ mWear d6.f.chip a = 1 ∧ Fit 3 d5 ∧ Fit 3 d6 ∧ (0 ≤ d5.t ∧ d5.t ≤ 1000) := by
  obtain ⟨e5, f5⟩ := f4.put (64 * a) v (by omega) (by rw [show 64 * a / 64 = a by omega]; exact hl)
  obtain ⟨e6, f6⟩ := f5.erase a ha hl (by show nm d4.f.chip.wear a < d4.f.chip.endure; rw [hw, he]; decide)
  refine ⟨_, _, ?_, ?_, e6, ?_, f5, f6, ?_⟩
  · rw [program_one]
    exact e5
  · show wd (d4.f.chip.ws.set (64 * a) _) (64 * a) = v
    rw [wd_set_self _ _ _ (by rw [f4.len]; omega), hx, and_ones]
  · rw [wear_at]
    show nm (d4.f.chip.wear.set a _) a = 1
    rw [nm_set_self _ _ _ (by rw [f4.wlen]; exact ha)]
    show nm d4.f.chip.wear a + 1 = 1
    rw [hw]; rfl
  · show 0 ≤ d4.t + 3 ∧ d4.t + 3 ≤ 1000
    omega
theorem lockF (a b : Nat) (v : BitVec 32) (ha : a < 3) (hb : b < 3) : ∃ d1 d2 d3 d4 d5 d6, LockF a b v (if a = b then 6 else 0) d1 d2 d3 d4 d5 d6 := by
  have f0 := Fit.new 3 5 (by omega) (by omega) (by omega) (by omega)
  obtain ⟨e1, f1⟩ := f0.lock a true ha
  have hn : noLocks.length = 64 := by simp [noLocks]
  by_cases hab : a = b
  · subst hab
    rw [if_pos rfl]
    have hl : lk (noLocks.set a true) a = true := lk_set_self _ _ _ (by omega)
    obtain ⟨e2, f2⟩ := f1.putLocked (64 * a) v (by omega) (by rw [show 64 * a / 64 = a by omega]; exact hl)
    obtain ⟨e3, f3⟩ := f2.eraseLocked a ha hl
    obtain ⟨e4, f4⟩ := f3.lock a false ha
    obtain ⟨d5, d6, e5, w5, e6, w6, f5, f6, t5⟩ := lockF_end a v ha _ f4 (show (0 : Int) ≤ 0 ∧ (0 : Int) ≤ 100 by decide) (lk_set_self _ _ _ (by simp [lockD, fNew]; omega)) (new3_wear a) rfl (new3_wd _ (by omega))
    exact ⟨_, _, _, _, d5, d6, e1, by rw [program_one]; exact e2, e3, e4, by rw [wear_at]; exact new3_wear a, e5, w5, e6, w6, f1, f2, f3, f4, f5, f6, (show (0 : Int) ≤ 0 ∧ (0 : Int) ≤ 1000 by decide), (show (0 : Int) ≤ 0 ∧ (0 : Int) ≤ 1000 by decide), (show (0 : Int) ≤ 0 ∧ (0 : Int) ≤ 1000 by decide), t5⟩
  · rw [if_neg hab]
    have hl : lk (noLocks.set a true) b = false := by rw [lk_set_other _ _ _ _ hab]; exact lk_none b
    obtain ⟨e2, f2⟩ := f1.put (64 * b) v (by omega) (by rw [show 64 * b / 64 = b by omega]; exact hl)
    obtain ⟨e3, f3⟩ := f2.erase b hb hl (by show nm (mNew 3 5).wear b < 5; rw [new3_wear]; decide)
    obtain ⟨e4, f4⟩ := f3.lock a false ha
    have hwa : nm ((mNew 3 5).wear.set b (nm (mNew 3 5).wear b + 1)) a = 0 := by rw [nm_set_other _ _ _ _ (Ne.symm hab)]; exact new3_wear a
    have hx : wd (eraseTo ((mNew 3 5).ws.set (64 * b) (wd (mNew 3 5).ws (64 * b) &&& v)) b 64 ones) (64 * a) = ones := by
      rw [eraseTo_all _ _ _ _ (by rw [List.length_set, new3_len]; omega), if_neg (by omega), wd_set_other _ _ _ _ (by omega)]
      exact new3_wd _ (by omega)
    obtain ⟨d5, d6, e5, w5, e6, w6, f5, f6, t5⟩ := lockF_end a v ha _ f4 (show (0 : Int) ≤ 0 + 3 + 20 ∧ (0 + 3 + 20 : Int) ≤ 100 by decide) (lk_set_self _ _ _ (by simp [lockD, eraseD, putD, fNew]; omega)) hwa rfl hx
    exact ⟨_, _, _, _, d5, d6, e1, by rw [program_one]; exact e2, e3, e4, by rw [wear_at]; exact hwa, e5, w5, e6, w6, f1, f2, f3, f4, f5, f6, (show (0 : Int) ≤ 0 ∧ (0 : Int) ≤ 1000 by decide), (show (0 : Int) ≤ 0 + 3 ∧ (0 + 3 : Int) ≤ 1000 by decide), (show (0 : Int) ≤ 0 + 3 + 20 ∧ (0 + 3 + 20 : Int) ≤ 1000 by decide), t5⟩
end Go.Proofs.Ytfckgfimmoinmaa
