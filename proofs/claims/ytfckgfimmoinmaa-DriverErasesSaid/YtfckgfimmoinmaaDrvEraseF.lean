/- Plain facts for the statement DriverErases. -/
import Derived.Test.YtfckgfimmoinmaaDrvFacts
namespace Go.Proofs.Ytfckgfimmoinmaa
open Bm

theorem new2k_wd (e : Int) (i : Nat) (h : i < 128) : wd (mNew 2 e).ws i = ones := by unfold mNew mOf; exact wd_rep _ _ _ (by omega)
theorem new2k_len (e : Int) : (mNew 2 e).ws.length = 128 := by unfold mNew mOf; exact List.length_replicate

/-- Block b was erased j times; words were in both blocks. -/
structure ErP (k b : Nat) (xs : List (BitVec 32)) (j : Nat) (d : DrvM) : Prop where
  fit : Fit 2 d
  t : d.t = 6 * (xs.length : Int) + 20 * (j : Int)
  wear : nm d.f.chip.wear b = j
  endure : d.f.chip.endure = k
  here : ∀ i, i < xs.length → wd d.f.chip.ws (64 * b + i) = if j = 0 then wd xs i else ones
  there : ∀ i, i < xs.length → wd d.f.chip.ws (64 * (1 - b) + i) = wd xs i
  locks : ∀ i, lk d.f.locks i = false
theorem erP_begin (k b : Nat) (xs : List (BitVec 32)) (hk : k < 4) (hb : b < 2) (hx : xs.length ≤ 10) : ∃ d1 d2, dProgram ⟨fNew (mNew 2 k), 0⟩ 0 xs = (d1, 0) ∧ dProgram d1 64 xs = (d2, 0) ∧ Fit 2 d1 ∧ d1.t = 3 * (xs.length : Int) ∧ ErP k b xs 0 d2 := by
  have f0 := Fit.new 2 k (by omega) (by omega) (by omega) (by omega)
  obtain ⟨e1, f1⟩ := Fit.program xs 0 f0 (by omega) (fun b => lk_none b)
  obtain ⟨e2, f2⟩ := Fit.program xs 64 f1 (by omega) (fun b => lk_none b)
  have hw : ∀ i, i < xs.length → wd (progWs (progWs (mNew 2 k).ws 0 xs) 64 xs) i = wd xs i ∧ wd (progWs (progWs (mNew 2 k).ws 0 xs) 64 xs) (64 + i) = wd xs i := by
    intro i hi
    rw [progWs_get _ _ _ _ (by rw [progWs_length, new2k_len]; omega), progWs_get _ _ _ _ (by rw [new2k_len]; omega), progWs_get _ _ _ _ (by rw [progWs_length, new2k_len]; omega), progWs_get _ _ _ _ (by rw [new2k_len]; omega)]
    rw [if_neg (by omega), if_pos (by omega), if_pos (by omega), if_neg (by omega), new2k_wd _ _ (by omega), new2k_wd _ _ (by omega), and_ones, and_ones, show 64 + i - 64 = i by omega, Nat.sub_zero]
    exact ⟨rfl, rfl⟩
  refine ⟨_, _, e1, e2, f1, by simp [progD], f2, by simp [progD]; omega, ?_, rfl, fun i hi => ?_, fun i hi => ?_, fun i => lk_none i⟩
  · show nm (mNew 2 k).wear b = ((0 : Nat) : Int)
    unfold mNew mOf
    exact nm_zeros 2 b
  · rw [if_pos rfl]
    show wd (progWs (progWs (mNew 2 k).ws 0 xs) 64 xs) _ = _
    obtain rfl | rfl : b = 0 ∨ b = 1 := by omega
    · rw [show 64 * 0 + i = i by omega]; exact (hw i hi).1
    · exact (hw i hi).2
  · show wd (progWs (progWs (mNew 2 k).ws 0 xs) 64 xs) _ = _
    obtain rfl | rfl : b = 0 ∨ b = 1 := by omega
    · exact (hw i hi).2
    · rw [show 64 * (1 - 1) + i = i by omega]; exact (hw i hi).1
theorem ErP.step {k b : Nat} {xs : List (BitVec 32)} {j : Nat} {d : DrvM} (h : ErP k b xs j d) (hj : j < k) (hb : b < 2) (hx : xs.length ≤ 10) : dErase d b = (eraseD d b, 0) ∧ ErP k b xs (j + 1) (eraseD d b) := by
  obtain ⟨e, f⟩ := h.fit.erase b hb (h.locks b) (by rw [h.wear, h.endure]; omega)
  have hl := h.fit.len
  refine ⟨e, f, ?_, ?_, h.endure, fun i hi => ?_, fun i hi => ?_, h.locks⟩
  · show d.t + 20 = _
    rw [h.t]; omega
  · show nm (d.f.chip.wear.set b _) b = _
    rw [nm_set_self _ _ _ (by rw [h.fit.wlen]; exact hb), h.wear]
    omega
  · rw [if_neg (by omega)]
    show wd (eraseTo d.f.chip.ws b 64 ones) _ = _
    rw [eraseTo_all _ _ _ _ (by omega), if_pos (by omega)]
  · show wd (eraseTo d.f.chip.ws b 64 ones) _ = _
    rw [eraseTo_all _ _ _ _ (by omega), if_neg (by omega)]
    exact h.there i hi
theorem ErP.last {k b : Nat} {xs : List (BitVec 32)} {d : DrvM} (h : ErP k b xs k d) (hb : b < 2) : ∃ d', dErase d b = (d', 5) ∧ Fit 2 d' ∧ d'.t = d.t + 20 ∧ d'.f.chip = d.f.chip := by
  obtain ⟨e, f⟩ := h.fit.worn b hb (h.locks b) (by rw [h.wear, h.endure]; omega)
  exact ⟨_, e, f, rfl, rfl⟩
end Go.Proofs.Ytfckgfimmoinmaa
