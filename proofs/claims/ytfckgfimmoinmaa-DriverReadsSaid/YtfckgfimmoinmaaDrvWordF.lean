/- Plain facts for the statement DriverWords. -/
import Derived.Test.YtfckgfimmoinmaaDrvFacts
namespace Go.Proofs.Ytfckgfimmoinmaa
open Bm

theorem new2_wd (i : Nat) (h : i < 128) : wd (mNew 2 5).ws i = ones := by unfold mNew mOf; exact wd_rep _ _ _ (by omega)
theorem new2_len' : (mNew 2 5).ws.length = 128 := by unfold mNew mOf; exact List.length_replicate
theorem drop_take_get (ws : List (BitVec 32)) (k n j : Nat) (hj : j < n) : wd ((ws.drop k).take n) j = wd ws (k + j) := by
  unfold wd
  rw [List.getD_eq_getElem?_getD, List.getD_eq_getElem?_getD, List.getElem?_take, if_pos hj, List.getElem?_drop]

/-- What DriverWords comes by. -/
structure WordF (k : Nat) (xs ys : List (BitVec 32)) (n : Nat) (d1 d2 d3 : DrvM) (l : List (BitVec 32)) : Prop where
  e1 : dProgram ⟨fNew (mNew 2 5), 0⟩ k xs = (d1, 0)
  e2 : dProgram d1 k ys = (d2, 0)
  e3 : dRead d2 k n = (d3, l, 0)
  f1 : Fit 2 d1
  f2 : Fit 2 d2
  f3 : Fit 2 d3
  t1 : d1.t = 3 * xs.length
  t2 : d2.t = 3 * (xs.length + ys.length)
  c3 : d3.f.chip = d2.f.chip
  len : l.length = n
  rd : ∀ j, j < n → wd l j = wd d2.f.chip.ws (k + j)
  ws : ∀ i, i < 128 → wd d2.f.chip.ws i = (if k ≤ i ∧ i < k + ys.length then (if k ≤ i ∧ i < k + xs.length then ones &&& wd xs (i - k) else ones) &&& wd ys (i - k) else (if k ≤ i ∧ i < k + xs.length then ones &&& wd xs (i - k) else ones))
theorem wordF (k : Nat) (xs ys : List (BitVec 32)) (n : Nat) (hk : k < 100) (hx : xs.length ≤ 10) (hy : ys.length ≤ 10) (hn : n ≤ 10) : ∃ d1 d2 d3 l, WordF k xs ys n d1 d2 d3 l := by
  have f0 := Fit.new 2 5 (by omega) (by omega) (by omega) (by omega)
  obtain ⟨e1, f1⟩ := Fit.program xs k f0 (by omega) (fun b => lk_none b)
  obtain ⟨e2, f2⟩ := Fit.program ys k f1 (by omega) (fun b => lk_none b)
  obtain ⟨e3, f3⟩ := f2.read k n (by omega) (by omega)
  rw [e3] at f3
  refine ⟨_, _, _, _, e1, e2, e3, f1, f2, f3, by simp [progD], by simp [progD]; omega, by split <;> rfl, ?_, fun j hj => drop_take_get _ _ _ _ hj, fun i hi => ?_⟩
  · rw [List.length_take, List.length_drop, f2.len]
    omega
  · show wd (progWs (progWs (mNew 2 5).ws k xs) k ys) i = _
    rw [progWs_get _ _ _ _ (by rw [progWs_length, new2_len']; omega), progWs_get _ _ _ _ (by rw [new2_len']; omega), new2_wd i hi]
end Go.Proofs.Ytfckgfimmoinmaa
