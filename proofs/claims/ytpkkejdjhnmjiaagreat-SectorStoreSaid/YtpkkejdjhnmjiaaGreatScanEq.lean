/- Blocks are compared by value (layer scan). -/
import Derived.Test.YtpkkejdjhnmjiaaGreatPageEq
import Derived.Test.YtpkkejdjhnmjiaaGreatScanMath
import Derived.Laws.StructEq
namespace Go.Proofs.YtpkkejdjhnmjiaaGreat
open Go.RowKit Bm
theorem part_one {P : Program} {E : TypeId} {k : IntKind} (hE : P.underlying E = some (.int k)) (w : World) (cs : Array Value) (i : Nat) (v : Value) (h : cs[i]? = some v) : (part E cs i).run P w = .ok v w := by
  simp [part, isAgg, run_underlying hE, h]
theorem size_of {P : Program} {T : TypeId} {n : Nat} (h : (P.info? T).map (·.size) = some n) (w : World) : (sizeOf T).run P w = .ok n w := by
  obtain ⟨i, hi, e⟩ := Option.map_eq_some_iff.1 h
  rw [run_sizeOf w hi]
  unfold Program.cellsOf
  rw [hi]
  simp [e]
theorem pg_dec (p q : PageM) : (U p.s == U q.s && (U p.q == U q.q && (p.g == q.g && (U p.d0 == U q.d0 && (U p.d1 == U q.d1 && (U p.d2 == U q.d2 && U p.d3 == U q.d3)))))) = decide (p = q) := by
  obtain ⟨s, q1, g, d0, d1, d2, d3⟩ := p
  obtain ⟨s', q1', g', e0, e1, e2, e3⟩ := q
  rw [Bool.eq_iff_iff]
  simp only [Bool.and_eq_true, beq_iff_eq, U_eq_iff, decide_eq_true_eq, PageM.mk.injEq]
end Go.Proofs.YtpkkejdjhnmjiaaGreat
