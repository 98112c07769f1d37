import Derived.Test.YtnfgpjfldgocaaaGreatPageEq
import Derived.Test.YtnfgpjfldgocaaaGreatScanMath
import Derived.Laws.StructEq
namespace Go.Proofs.YtnfgpjfldgocaaaGreat
open Go.RowKit Bm
theorem nm_eight (ks : List Int) (h : ks.length = 8) : ks = [nm ks 0, nm ks 1, nm ks 2, nm ks 3, nm ks 4, nm ks 5, nm ks 6, nm ks 7] := by
 match ks, h with
 | [a, b, c, d, e, f, g, i], _ => rfl
theorem part_one {P : Program} {E : TypeId} {k : IntKind} (hE : P.underlying E = some (.int k)) (w : World) (cs : Array Value) (i : Nat) (v : Value) (h : cs[i]? = some v) : (part E cs i).run P w = .ok v w := by
 simp [part, isAgg, run_underlying hE, h]
theorem part_agg {P : Program} {E : TypeId} {d : TypeDesc} {n : Nat} (hE : P.underlying E = some d) (hd : (match d with | .struct _ | .array _ _ => true | _ => false) = true) (hn : ∀ w, (sizeOf E).run P w = .ok n w) (w : World) (cs : Array Value) (i : Nat) : (part E cs i).run P w = .ok (.agg (cs.extract i (i + n))) w := by
 cases d <;> simp at hd <;> simp [part, isAgg, run_underlying hE, hn]
theorem size_of {P : Program} {T : TypeId} {n : Nat} (h : (P.info? T).map (·.size) = some n) (w : World) : (sizeOf T).run P w = .ok n w := by
 obtain ⟨i, hi, e⟩ := Option.map_eq_some_iff.1 h
 rw [run_sizeOf w hi]
 unfold Program.cellsOf
 rw [hi]
 simp [e]
theorem pg_dec (p q : PageM) : (U p.s == U q.s && (U p.q == U q.q && (p.g == q.g && (U p.d0 == U q.d0 && (U p.d1 == U q.d1 && (U p.d2 == U q.d2 && U p.d3 == U q.d3)))))) = decide (p = q) := by
 obtain ⟨s, q1, g, d0, d1, d2, d3⟩ := p
 obtain ⟨s', q1', g', e0, e1, e2, e3⟩ := q
 rw [Bool.eq_iff_iff]
 simp only [Bool.and_eq_true, beq_iff_eq, U_eq_iff, decide_eq_true_eq, PageM.mk.injEq]
theorem pgs_extract (l : List PageM) (i : Nat) (hi : i < l.length) : (pgs l).toArray.extract (i * 7) (i * 7 + 7) = (pgC (pgN l i)).toArray := by
 rw [pgs_split l i hi]
 have hp : (pgs (l.take i)).length = 7 * i := by rw [pgs_len, List.length_take]; omega
 apply Array.ext'
 simp only [Array.toList_extract, List.extract_eq_take_drop]
 rw [List.drop_left' (by omega)]
 rw [show i * 7 + 7 - i * 7 = 7 by omega, List.take_left' (pgC_len _)]
end Go.Proofs.YtnfgpjfldgocaaaGreat
