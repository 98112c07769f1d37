/- Blocks are compared by value (layer scan). -/
import Derived.Test.YtnfgpjfldgocaaaGreatPageEq
import Derived.Test.YtnfgpjfldgocaaaGreatScanMath
import Derived.Laws.StructEq
namespace Go.Proofs.YtnfgpjfldgocaaaGreat
open Go.RowKit Bm

theorem run_eq_array {P : Program} {T E : TypeId} {len n d : Nat} (hT : P.underlying T = some (.array len E)) (hn : ∀ w, (sizeOf E).run P w = .ok n w) (xs ys : Array Value) (x y : Nat → Value) (b : Nat → Bool) (hx : ∀ i, i < len → ∀ w, (part E xs (i * n)).run P w = .ok (x i) w) (hy : ∀ i, i < len → ∀ w, (part E ys (i * n)).run P w = .ok (y i) w)
    (he : ∀ i, i < len → ∀ w, (Op.equalIn d E (x i) (y i)).run P w = .ok (b i) w) (w : World) : (Op.equalIn (d + 1) T (.agg xs) (.agg ys)).run P w = .ok ((List.range len).all b) w := by
  unfold Op.equalIn
  simp only [Sem.run_bind, run_underlying hT, Result.andThen_ok, hn]
  rw [Std.Legacy.Range.forIn_eq_forIn_range']
  have hl : ∀ i ∈ List.range' 0 len 1, i < len := by intro i hi; simpa [List.mem_range'] using hi
  have hr : List.range len = List.range' 0 len 1 := List.range_eq_range'
  rw [hr]
  simp only [Std.Legacy.Range.size, Nat.sub_zero, Nat.add_sub_cancel, Nat.div_one]
  generalize List.range' 0 len 1 = l at hl
  induction l with
  | nil => simp
  | cons i l ih =>
    have hi := hl i (by simp)
    have ih' := ih (fun k hk => hl k (by simp [hk]))
    simp only [List.forIn_cons, Sem.run_bind, hx i hi, hy i hi, Result.andThen_ok, he i hi, List.all_cons]
    cases hb : b i
    · simp
    · simpa using ih'

/-- Eight elements, and which of them they are. -/
theorem nm_eight (ks : List Int) (h : ks.length = 8) : ks = [nm ks 0, nm ks 1, nm ks 2, nm ks 3, nm ks 4, nm ks 5, nm ks 6, nm ks 7] := by
  match ks, h with
  | [a, b, c, d, e, f, g, i], _ => rfl
theorem part_one {P : Program} {E : TypeId} {k : IntKind} (hE : P.underlying E = some (.int k)) (w : World) (cs : Array Value) (i : Nat) (v : Value) (h : cs[i]? = some v) : (part E cs i).run P w = .ok v w := by
  simp [part, isAgg, run_underlying hE, h]
theorem part_agg {P : Program} {E : TypeId} {d : TypeDesc} {n : Nat} (hE : P.underlying E = some d) (hd : (match d with | .struct _ | .array _ _ => true | _ => false) = true) (hn : ∀ w, (sizeOf E).run P w = .ok n w) (w : World) (cs : Array Value) (i : Nat) : (part E cs i).run P w = .ok (.agg (cs.extract i (i + n))) w := by
  cases d <;> simp at hd <;> simp [part, isAgg, run_underlying hE, hn]
theorem size_of {P : Program} {T : TypeId} {n : Nat} (h : (P.info? T).map (·.size) = some n) (w : World) : (sizeOf T).run P w = .ok n w := by
  obtain ⟨i, hi, e⟩ := Option.map_eq_some_iff.1 h
  rw [run_sizeOf w hi]
  unfold Program.cellsOf
  rw [hi]
  simp [e]
theorem beq_dec (a b : Int) : (a == b) = decide (a = b) := rfl
theorem all_dec {α : Type} [DecidableEq α] (xs ys : List α) (d : α) (n : Nat) (hx : xs.length = n) (hy : ys.length = n) : (List.range n).all (fun i => decide (xs.getD i d = ys.getD i d)) = decide (xs = ys) := by
  rw [Bool.eq_iff_iff]
  simp only [List.all_eq_true, List.mem_range, decide_eq_true_eq]
  constructor
  · intro h
    apply List.ext_getElem (by omega)
    intro i h1 h2
    have := h i (by omega)
    rw [List.getD_eq_getElem?_getD, List.getD_eq_getElem?_getD, List.getElem?_eq_getElem h1, List.getElem?_eq_getElem h2] at this
    exact this
  · rintro rfl i _
    rfl

theorem run_eq_kinds (d : Nat) (ks js : List Int) (hk : ks.length = 8) (hj : js.length = 8) (w : World) : (Op.equalIn (d + 2) 66 (.agg (Is ks).toArray) (.agg (Is js).toArray)).run Tryz.prog w = .ok (decide (ks = js)) w := by
  rw [← all_dec ks js 0 8 hk hj]
  refine run_eq_array (n := 1) Tryz.underlying66 (size_of (by kernel_rfl)) _ _ (fun i => .int .i64 (nm ks i)) (fun i => .int .i64 (nm js i)) _ (fun i hi w => ?_) (fun i hi w => ?_) (fun i hi w => ?_) w
  · exact part_one Tryz.underlying3 w _ _ _ (by rw [Nat.mul_one, List.getElem?_toArray]; exact Is_get ks i (by omega))
  · exact part_one Tryz.underlying3 w _ _ _ (by rw [Nat.mul_one, List.getElem?_toArray]; exact Is_get js i (by omega))
  · exact run_equalIn_int w d _ _ _ _ _ Tryz.underlying3

theorem pg_dec (p q : PageM) : (U p.s == U q.s && (U p.q == U q.q && (p.g == q.g && (U p.d0 == U q.d0 && (U p.d1 == U q.d1 && (U p.d2 == U q.d2 && U p.d3 == U q.d3)))))) = decide (p = q) := by
  obtain ⟨s, q1, g, d0, d1, d2, d3⟩ := p
  obtain ⟨s', q1', g', e0, e1, e2, e3⟩ := q
  rw [Bool.eq_iff_iff]
  simp only [Bool.and_eq_true, beq_iff_eq, U_eq_iff, decide_eq_true_eq, PageM.mk.injEq]
theorem pgs_extract (l : List PageM) (i : Nat) (hi : i < l.length) : (pgs l).toArray.extract (i * 7) (i * 7 + 7) = (pgC (pgN l i)).toArray := by
  rw [pgs_split l i hi]
  have hp : (pgs (l.take i)).length = 7 * i := by rw [pgs_len, List.length_take]; omega
  apply Array.ext'
  simp only [Array.toList_extract, List.extract_eq_take_drop]
  rw [List.drop_left' (by omega)]
  rw [show i * 7 + 7 - i * 7 = 7 by omega, List.take_left' (pgC_len _)]

theorem run_eq_pages (d : Nat) (l m : List PageM) (hl : l.length = 8) (hm : m.length = 8) (w : World) : (Op.equalIn (d + 4) 70 (.agg (pgs l).toArray) (.agg (pgs m).toArray)).run Tryz.prog w = .ok (decide (l = m)) w := by
  rw [← all_dec l m pg0 8 hl hm]
  refine run_eq_array (n := 7) Tryz.underlying70 (size_of (by kernel_rfl)) _ _ (fun i => .agg (pgC (pgN l i)).toArray) (fun i => .agg (pgC (pgN m i)).toArray) _ (fun i hi w => ?_) (fun i hi w => ?_) (fun i hi w => ?_) w
  · rw [part_agg Tryz.underlying69 rfl (size_of (by kernel_rfl)) w _ _, pgs_extract l i (by omega)]
  · rw [part_agg Tryz.underlying69 rfl (size_of (by kernel_rfl)) w _ _, pgs_extract m i (by omega)]
  · rw [← pg_dec]
    exact run_eq_rpage d _ _ _ _ _ _ _ _ _ _ _ _ _ _ w
theorem run_eq_pagesP (d : Nat) (l m : List PageM) (hl : l.length = 8) (hm : m.length = 8) (w : World) : (Op.equalIn (d + 4) 99 (.agg (pgs l).toArray) (.agg (pgs m).toArray)).run Tryz.prog w = .ok (decide (l = m)) w := by
  rw [← all_dec l m pg0 8 hl hm]
  refine run_eq_array (n := 7) Tryz.underlying99 (size_of (by kernel_rfl)) _ _ (fun i => .agg (pgC (pgN l i)).toArray) (fun i => .agg (pgC (pgN m i)).toArray) _ (fun i hi w => ?_) (fun i hi w => ?_) (fun i hi w => ?_) w
  · rw [part_agg Tryz.underlying98 rfl (size_of (by kernel_rfl)) w _ _, pgs_extract l i (by omega)]
  · rw [part_agg Tryz.underlying98 rfl (size_of (by kernel_rfl)) w _ _, pgs_extract m i (by omega)]
  · rw [← pg_dec]
    exact run_eq_page d _ _ _ _ _ _ _ _ _ _ _ _ _ _ w

theorem bk_kinds_cells {b : BlkM} (h : BlkOk b) : (bkC b).toArray.extract 2 (2 + 8) = (Is b.kinds).toArray := by
  unfold bkC
  apply Array.ext'
  simp only [Array.toList_extract, List.extract_eq_take_drop]
  show List.take 8 (Is b.kinds ++ pgs b.pages) = _
  rw [List.take_left' (by rw [Is_length, h.k])]
theorem bk_pages_cells {b : BlkM} (h : BlkOk b) : (bkC b).toArray.extract 10 (10 + 56) = (pgs b.pages).toArray := by
  unfold bkC
  apply Array.ext'
  simp only [Array.toList_extract, List.extract_eq_take_drop]
  rw [← List.append_assoc, List.drop_left' (by rw [List.length_append, Is_length, h.k]; rfl), List.take_of_length_le (by rw [pgs_len, h.p]; omega)]
theorem bk_dec (a b : BlkM) : (a.head == b.head && (U a.count == U b.count && (decide (a.kinds = b.kinds) && decide (a.pages = b.pages)))) = decide (a = b) := by
  obtain ⟨h, c, k, p⟩ := a
  obtain ⟨h', c', k', p'⟩ := b
  rw [Bool.eq_iff_iff]
  simp only [Bool.and_eq_true, beq_iff_eq, U_eq_iff, decide_eq_true_eq, BlkM.mk.injEq]

/-- Two of the document's blocks are compared. -/
theorem run_eq_rblk (d : Nat) {a b : BlkM} (ha : BlkOk a) (hb : BlkOk b) (w : World) : (Op.equalIn (d + 6) 72 (.agg (bkC a).toArray) (.agg (bkC b).toArray)).run Tryz.prog w = .ok (decide (a = b)) w := by
  rw [run_equalIn_struct w _ _ _ _ (by kernel_rfl) (by kernel_rfl)]
  rw [← bk_dec]
  have k := run_eq_kinds (d + 3) a.kinds b.kinds ha.k hb.k
  have p := run_eq_pages (d + 1) a.pages b.pages ha.p hb.p
  have i1 := fun w a b => run_equalIn_int (P := Tryz.prog) w (d + 4) 3 .i64 _ a b Tryz.underlying3
  have i2 := fun w a b => run_equalIn_int (P := Tryz.prog) w (d + 4) 38 .u32 _ a b Tryz.underlying38
  have q0 := fun w => part_one Tryz.underlying3 w (bkC a).toArray 0 _ (by rw [List.getElem?_toArray]; exact bk_head a)
  have q0' := fun w => part_one Tryz.underlying3 w (bkC b).toArray 0 _ (by rw [List.getElem?_toArray]; exact bk_head b)
  have q1 := fun w => part_one Tryz.underlying38 w (bkC a).toArray 1 _ (by rw [List.getElem?_toArray]; exact bk_count a)
  have q1' := fun w => part_one Tryz.underlying38 w (bkC b).toArray 1 _ (by rw [List.getElem?_toArray]; exact bk_count b)
  have q2 := fun w => part_agg Tryz.underlying66 rfl (size_of (n := 8) (by kernel_rfl)) w (bkC a).toArray 2
  have q2' := fun w => part_agg Tryz.underlying66 rfl (size_of (n := 8) (by kernel_rfl)) w (bkC b).toArray 2
  have q3 := fun w => part_agg Tryz.underlying70 rfl (size_of (n := 56) (by kernel_rfl)) w (bkC a).toArray 10
  have q3' := fun w => part_agg Tryz.underlying70 rfl (size_of (n := 56) (by kernel_rfl)) w (bkC b).toArray 10
  rw [bk_kinds_cells ha] at q2
  rw [bk_kinds_cells hb] at q2'
  rw [bk_pages_cells ha] at q3
  rw [bk_pages_cells hb] at q3'
  unfold Program.fieldsOf
  rw [Tryz.underlying72]
  simp only [Op.eqFields, Sem.run_bind, Sem.run_ite, q0, q0', q1, q1', q2, q2', q3, q3', Result.andThen_ok, i1, i2, k, p]
  have n0 : ("Head" : String) ≠ "_" := by decide
  have n1 : ("Count" : String) ≠ "_" := by decide
  have n2 : ("Kinds" : String) ≠ "_" := by decide
  have n3 : ("Pages" : String) ≠ "_" := by decide
  rw [if_pos n0, if_pos n1, if_pos n2, if_pos n3]
  generalize (a.head == b.head) = b0
  generalize (U a.count == U b.count) = b1
  generalize decide (a.kinds = b.kinds) = b2
  generalize decide (a.pages = b.pages) = b3
  cases b0 <;> cases b1 <;> cases b2 <;> cases b3 <;> rfl
/-- Two of the program's blocks are compared. -/
theorem run_eq_blk (d : Nat) {a b : BlkM} (ha : BlkOk a) (hb : BlkOk b) (w : World) : (Op.equalIn (d + 6) 101 (.agg (bkC a).toArray) (.agg (bkC b).toArray)).run Tryz.prog w = .ok (decide (a = b)) w := by
  rw [run_equalIn_struct w _ _ _ _ (by kernel_rfl) (by kernel_rfl)]
  rw [← bk_dec]
  have k := run_eq_kinds (d + 3) a.kinds b.kinds ha.k hb.k
  have p := run_eq_pagesP (d + 1) a.pages b.pages ha.p hb.p
  have i1 := fun w a b => run_equalIn_int (P := Tryz.prog) w (d + 4) 3 .i64 _ a b Tryz.underlying3
  have i2 := fun w a b => run_equalIn_int (P := Tryz.prog) w (d + 4) 38 .u32 _ a b Tryz.underlying38
  have q0 := fun w => part_one Tryz.underlying3 w (bkC a).toArray 0 _ (by rw [List.getElem?_toArray]; exact bk_head a)
  have q0' := fun w => part_one Tryz.underlying3 w (bkC b).toArray 0 _ (by rw [List.getElem?_toArray]; exact bk_head b)
  have q1 := fun w => part_one Tryz.underlying38 w (bkC a).toArray 1 _ (by rw [List.getElem?_toArray]; exact bk_count a)
  have q1' := fun w => part_one Tryz.underlying38 w (bkC b).toArray 1 _ (by rw [List.getElem?_toArray]; exact bk_count b)
  have q2 := fun w => part_agg Tryz.underlying66 rfl (size_of (n := 8) (by kernel_rfl)) w (bkC a).toArray 2
  have q2' := fun w => part_agg Tryz.underlying66 rfl (size_of (n := 8) (by kernel_rfl)) w (bkC b).toArray 2
  have q3 := fun w => part_agg Tryz.underlying99 rfl (size_of (n := 56) (by kernel_rfl)) w (bkC a).toArray 10
  have q3' := fun w => part_agg Tryz.underlying99 rfl (size_of (n := 56) (by kernel_rfl)) w (bkC b).toArray 10
  rw [bk_kinds_cells ha] at q2
  rw [bk_kinds_cells hb] at q2'
  rw [bk_pages_cells ha] at q3
  rw [bk_pages_cells hb] at q3'
  unfold Program.fieldsOf
  rw [Tryz.underlying101]
  simp only [Op.eqFields, Sem.run_bind, Sem.run_ite, q0, q0', q1, q1', q2, q2', q3, q3', Result.andThen_ok, i1, i2, k, p]
  have n0 : ("Head" : String) ≠ "_" := by decide
  have n1 : ("Count" : String) ≠ "_" := by decide
  have n2 : ("Kinds" : String) ≠ "_" := by decide
  have n3 : ("Pages" : String) ≠ "_" := by decide
  rw [if_pos n0, if_pos n1, if_pos n2, if_pos n3]
  generalize (a.head == b.head) = b0
  generalize (U a.count == U b.count) = b1
  generalize decide (a.kinds = b.kinds) = b2
  generalize decide (a.pages = b.pages) = b3
  cases b0 <;> cases b1 <;> cases b2 <;> cases b3 <;> rfl
end Go.Proofs.YtnfgpjfldgocaaaGreat
