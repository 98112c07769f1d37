/- Four words, as a sector has them: plain data, cells, rows of them; two are compared. -/
import Derived.Test.YtpkkejdjhnmjiaaGreatKd
import Derived.Test.YtpkkejdjhnmjiaaGreatBuild
import Derived.Laws.StructEq
import Derived.Lib.SliceRun
namespace Go.Proofs.YtpkkejdjhnmjiaaGreat
open Go.RowKit Bm
structure V4 where
  a : BitVec 32
  b : BitVec 32
  c : BitVec 32
  d : BitVec 32
  deriving DecidableEq, Inhabited
def v4C (v : V4) : List Value := [.int .u32 (U v.a), .int .u32 (U v.b), .int .u32 (U v.c), .int .u32 (U v.d)]
def v40 : V4 := ⟨0#32, 0#32, 0#32, 0#32⟩
theorem v4_one (v : V4) : ∀ u ∈ v4C v, u.oneCell' = true := by
  intro u hu
  simp only [v4C, List.mem_cons, List.not_mem_nil, or_false] at hu
  rcases hu with rfl | rfl | rfl | rfl <;> rfl
def v4K : Kd V4 := ⟨v4C, 4, v40, fun _ => rfl, v4_one, by decide⟩
theorem v4_len (v : V4) : (v4C v).length = 4 := rfl
def vN (l : List V4) (i : Nat) : V4 := v4K.nth l i
theorem v4_size : (Tryz.prog.info? 43).map (·.size) = some 4 := by kernel_rfl
theorem v4_infoA : (Tryz.prog.info? 43).map (fun i => (i.zero, i.size, i.bytes)) = some (some (.agg (v4C v40).toArray), 4, 16) := by kernel_rfl
theorem v4_infoZ : (Tryz.prog.info? 43).map (fun i => (i.zero, i.size)) = some (some (.agg (v4C v40).toArray), 4) := by kernel_rfl
theorem v4_zero (w : World) : (zeroValue 43).run Tryz.prog w = .ok (.agg (v4C v40).toArray) w := (zero_of_info v4_infoZ).1 w
theorem run_size4 (w : World) : (sizeOf 36).run Tryz.prog w = .ok 1 w := by
  simp [sizeOf]
  rfl
theorem run_part4 (w : World) (cs : Array Value) (i : Nat) (v : Value) (h : cs[i]? = some v) : (part 36 cs i).run Tryz.prog w = .ok v w := by
  simp [part, isAgg, run_underlying Tryz.underlying36, h]
theorem run_eq4 (d : Nat) (a b : Int) (w : World) : (Op.equalIn (d + 1) 36 (.int .u32 a) (.int .u32 b)).run Tryz.prog w = .ok (a == b) w := run_equalIn_int w d _ _ _ a b Tryz.underlying36
set_option maxRecDepth 10000 in
theorem run_eq_four (d : Nat) (a0 a1 a2 a3 b0 b1 b2 b3 : Int) (w : World) :
    (Op.equalIn (d + 2) 43 (.agg #[.int .u32 a0, .int .u32 a1, .int .u32 a2, .int .u32 a3]) (.agg #[.int .u32 b0, .int .u32 b1, .int .u32 b2, .int .u32 b3])).run Tryz.prog w =
      .ok (a0 == b0 && (a1 == b1 && (a2 == b2 && a3 == b3))) w := by
  have q := run_part4
  have e := run_eq4
  unfold Op.equalIn
  simp only [Sem.run_bind, run_underlying Tryz.underlying43, Result.andThen_ok, run_size4]
  rw [Std.Legacy.Range.forIn_eq_forIn_range']
  simp only [List.range', Std.Legacy.Range.size, List.forIn_cons, List.forIn_nil, Sem.run_bind]
  cases h0 : a0 == b0 <;> cases h1 : a1 == b1 <;> cases h2 : a2 == b2 <;> cases h3 : a3 == b3 <;> simp [q, e, h0, h1, h2, h3]
theorem v4_beq (x y : V4) : (U x.a == U y.a && (U x.b == U y.b && (U x.c == U y.c && U x.d == U y.d))) = decide (x = y) := by
  obtain ⟨a, b, c, d⟩ := x
  obtain ⟨a', b', c', d'⟩ := y
  rw [Bool.eq_iff_iff]
  simp only [Bool.and_eq_true, beq_iff_eq, U_eq_iff, decide_eq_true_eq, V4.mk.injEq]
theorem run_eqv (x y : V4) (w : World) : (Op.equalIn 10000 43 (.agg #[.int .u32 (U x.a), .int .u32 (U x.b), .int .u32 (U x.c), .int .u32 (U x.d)]) (.agg #[.int .u32 (U y.a), .int .u32 (U y.b), .int .u32 (U y.c), .int .u32 (U y.d)])).run Tryz.prog w = .ok (decide (x = y)) w := by
  rw [← v4_beq]
  exact run_eq_four 9998 _ _ _ _ _ _ _ _ w
theorem v4_cells {w : World} {g off : Nat} {v : V4} (h : w.rangeAt g off (v4C v)) : w.cell? ⟨g, off, none⟩ = some (.int .u32 (U v.a)) ∧ w.cell? ⟨g, off + 1, none⟩ = some (.int .u32 (U v.b)) ∧ w.cell? ⟨g, off + 2, none⟩ = some (.int .u32 (U v.c)) ∧ w.cell? ⟨g, off + 3, none⟩ = some (.int .u32 (U v.d)) :=
  ⟨h 0 _ rfl, h 1 _ rfl, h 2 _ rfl, h 3 _ rfl⟩
theorem wpList_snoc {α : Type} {K : Kd α} {P : Program} {ops : Array Oper} {rest : List Oper} {o : Oper} {a : Go.Act} {w : World} {Q : Exit → Go.Act → World → Prop} {base : Nat} {xs : List α} {y : α} {v : Value} {T SL : TypeId} {i0 : TypeInfo} {z : Value} {bytes : Nat} (hS : P.underlying SL = some (.slice T)) (hin : P.info? T = some i0) (hz0 : i0.zero = some z) (hz1 : i0.size = K.k) (hz2 : i0.bytes = bytes) (hz3 : z.cells.size = K.k) (hby : bytes ≤ 10000)
    (s x : Operand) (hgd : o.guard = none) (hop : o.op = .call { callee := .builtin .append, args := #[s, x], argTypes := #[SL, SL] }) (hs : a.eval s = v) (hown : w.ownsRow base T K.k v xs.length (K.all xs)) {g : Nat} (hx : a.eval x = .slice (some ⟨g, 0, none⟩) 1 1) (hA : At w g T (K.c y)) (hl : xs.length ≤ 100000) (hb : base ≤ w.heap.size)
    (h : ∀ g cap w', w'.ownsRow base T K.k (.slice (some ⟨g, 0, none⟩) (xs.length + 1) cap) (xs ++ [y]).length (K.all (xs ++ [y])) → Below base w w' → wpList P ops Q rest (a.put o.dst (.slice (some ⟨g, 0, none⟩) (xs.length + 1) cap)) w') : wpList P ops Q (o :: rest) a w := by
  have hbb : (xs.length + 1) * bytes ≤ 100001 * 10000 := Nat.mul_le_mul (by omega) hby
  refine wpList_append_lies _ hgd s x _ hop base T i0 z K.k bytes hS hin hz0 hz1 hz2 hz3 K.pos v xs.length _ hs hown ⟨g, 0, none⟩ 1 1 (K.c y) hx (by rw [K.len]; omega) hA.news_at (K.one _) (by omega) (by unfold maxLen; omega) (by omega) hb _ rfl ?_
  intro g' cap w' h1 h2 _ _
  refine h g' cap w' ?_ ((Below.refl base w).grown h2 hb (fun k hk => (hown.lt k hk).1))
  rw [List.length_append, List.length_singleton, K.all_app, K.all_sing]
  exact h1
end Go.Proofs.YtpkkejdjhnmjiaaGreat
