/- Plain facts for the statement DriverReads. -/
import Derived.Test.YtfckgfimmoinmaaDrvFacts
namespace Go.Proofs.Ytfckgfimmoinmaa
open Bm

theorem Fit.readTo {k : Nat} {d : DrvM} (h : Fit k d) (i n : Nat) (hn : n ≤ 64) (hi : i + n ≤ k * 64) : ∃ d', dRead d i n = (d', (d.f.chip.ws.drop i).take n, 0) ∧ Fit k d' ∧ d'.f.chip = d.f.chip := by
  obtain ⟨e, f⟩ := h.read i n hn hi
  rw [e] at f
  exact ⟨_, e, f, by split <;> rfl⟩

/-- What DriverReads comes by. -/
structure ReadF (k m : Nat) (xs : List (BitVec 32)) (d1 d2 d3 d4 : DrvM) (l : List (BitVec 32)) : Prop where
  e1 : dProgram ⟨fNew (mNew 2 5), 0⟩ k xs = (d1, 0)
  e2 : dRead d1 k xs.length = (d2, l, 0)
  e3 : dRead d2 k m = (d3, l.take m, 0)
  e4 : dRead d3 ((k : Int) + m) ((xs.length : Int) - m) = (d4, l.drop m, 0)
  f1 : Fit 2 d1
  f2 : Fit 2 d2
  f3 : Fit 2 d3
  f4 : Fit 2 d4
  len : l.length = xs.length
  ws : l = (d4.f.chip.ws.drop k).take xs.length
theorem readF (k m : Nat) (xs : List (BitVec 32)) (hk : k < 100) (hx : xs.length ≤ 10) (hm : m ≤ xs.length) : ∃ d1 d2 d3 d4 l, ReadF k m xs d1 d2 d3 d4 l := by
  have f0 := Fit.new 2 5 (by omega) (by omega) (by omega) (by omega)
  obtain ⟨e1, f1⟩ := Fit.program xs k f0 (by omega) (fun b => lk_none b)
  obtain ⟨d2, e2, f2, c2⟩ := f1.readTo k xs.length (by omega) (by omega)
  obtain ⟨d3, e3, f3, c3⟩ := f2.readTo k m (by omega) (by omega)
  obtain ⟨d4, e4, f4, c4⟩ := f3.readTo (k + m) (xs.length - m) (by omega) (by omega)
  rw [show ((k + m : Nat) : Int) = (k : Int) + m by omega, show ((xs.length - m : Nat) : Int) = (xs.length : Int) - m by omega] at e4
  refine ⟨_, d2, d3, d4, _, e1, e2, ?_, ?_, f1, f2, f3, f4, ?_, ?_⟩
  · rw [e3, c2, List.take_take, Nat.min_eq_left hm]
  · rw [e4, c3, c2, List.drop_take, List.drop_drop]
  · rw [List.length_take, List.length_drop, f1.len]
    omega
  · rw [c4, c3, c2]
end Go.Proofs.Ytfckgfimmoinmaa
