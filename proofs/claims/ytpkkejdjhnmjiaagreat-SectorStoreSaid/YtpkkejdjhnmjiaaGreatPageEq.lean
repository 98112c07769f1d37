/- Pages, and their data, are compared by value (layer page). -/
import Derived.Test.YtpkkejdjhnmjiaaGreatPageMath
import Derived.Test.YtpkkejdjhnmjiaaGreatOpens
import Derived.Laws.StructEq
namespace Go.Proofs.YtpkkejdjhnmjiaaGreat
open Go.RowKit Bm
theorem run_size_u32 (w : World) : (sizeOf 36).run Tryz.prog w = .ok 1 w := by
  simp [sizeOf]
  rfl
theorem run_part_u32 (w : World) (cs : Array Value) (i : Nat) (v : Value) (h : cs[i]? = some v) : (part 36 cs i).run Tryz.prog w = .ok v w := by
  simp [part, isAgg, run_underlying Tryz.underlying36, h]
theorem run_eq_u32 (d : Nat) (a b : Int) (w : World) : (Op.equalIn (d + 1) 36 (.int .u32 a) (.int .u32 b)).run Tryz.prog w = .ok (a == b) w := run_equalIn_int w d _ _ _ a b Tryz.underlying36
set_option maxRecDepth 10000 in
@[go_sem] theorem run_eq_data (d : Nat) (a0 a1 a2 a3 b0 b1 b2 b3 : Int) (w : World) :
    (Op.equalIn (d + 2) 43 (.agg #[.int .u32 a0, .int .u32 a1, .int .u32 a2, .int .u32 a3]) (.agg #[.int .u32 b0, .int .u32 b1, .int .u32 b2, .int .u32 b3])).run Tryz.prog w =
      .ok (a0 == b0 && (a1 == b1 && (a2 == b2 && a3 == b3))) w := by
  have q := run_part_u32
  have e := run_eq_u32
  unfold Op.equalIn
  simp only [Sem.run_bind, run_underlying Tryz.underlying43, Result.andThen_ok, run_size_u32]
  rw [Std.Legacy.Range.forIn_eq_forIn_range']
  simp only [List.range', Std.Legacy.Range.size, List.forIn_cons, List.forIn_nil, Sem.run_bind]
  cases h0 : a0 == b0 <;> cases h1 : a1 == b1 <;> cases h2 : a2 == b2 <;> cases h3 : a3 == b3 <;> simp [q, e, h0, h1, h2, h3]
set_option maxRecDepth 10000 in
theorem run_eq_page (d : Nat) (s q d0 d1 d2 d3 s' q' e0 e1 e2 e3 : Int) (g g' : Bool) (w : World) :
    (Op.equalIn (d + 3) 73 (.agg #[.int .u32 s, .int .u32 q, .bool g, .int .u32 d0, .int .u32 d1, .int .u32 d2, .int .u32 d3]) (.agg #[.int .u32 s', .int .u32 q', .bool g', .int .u32 e0, .int .u32 e1, .int .u32 e2, .int .u32 e3])).run Tryz.prog w =
      .ok (s == s' && (q == q' && (g == g' && (d0 == e0 && (d1 == e1 && (d2 == e2 && d3 == e3)))))) w := by
  go_simp
  by_cases h0 : s = s' <;> by_cases h1 : q = q' <;> by_cases h2 : g = g' <;> by_cases h3 : d0 = e0 <;> by_cases h4 : d1 = e1 <;> by_cases h5 : d2 = e2 <;> by_cases h6 : d3 = e3 <;> simp [h0, h1, h2, h3, h4, h5, h6]
end Go.Proofs.YtpkkejdjhnmjiaaGreat
